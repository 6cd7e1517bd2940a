package store_test

import (
	"fmt"
	"math/rand/v2"
	"reflect"
	"slices"
	"strings"
	"testing"

	"postbag/api"
	"postbag/store"
)

const (
	least = -1 << 63
	most  = 1<<63 - 1

	end = api.MaxNumber - 1 // the greatest number of a store
)

var day = api.Moment{Year: 2026, Month: 11, Day: 14, Hour: 17, Zone: -480}

// The plans, by names.
const (
	toMake        = "Make"
	toDrop        = "Drop"
	toRename      = "Rename"
	toAdd         = "Add"
	toFlag        = "Flags"
	toExpunge     = "Expunge"
	toCopy        = "Copy"
	toMove        = "Move"
	toSubscribe   = "Subscribe"
	toUnsubscribe = "Unsubscribe"
)

var plans = []string{toMake, toDrop, toRename, toAdd, toFlag, toExpunge, toCopy, toMove, toSubscribe, toUnsubscribe}

// ask is a call of a plan as plain data: what the plan does not take is not looked at.
type ask struct {
	plan      string
	name, to  string
	box       int
	uids      []int
	mode      int
	flags     []string
	unchanged int
	date      api.Moment
	body      string
}

// answer is what a plan says.
type answer struct {
	e    api.Event
	left []int
	code api.Errno
}

func (a ask) of(s *store.Store) answer {
	var out answer
	switch a.plan {
	case toMake:
		out.e, out.code = s.Make(a.name)
	case toDrop:
		out.e, out.code = s.Drop(a.name)
	case toRename:
		out.e, out.code = s.Rename(a.name, a.to)
	case toAdd:
		out.e, out.code = s.Add(a.name, a.flags, a.date, a.body)
	case toFlag:
		out.e, out.left, out.code = s.Flags(a.box, a.uids, a.mode, a.flags, a.unchanged)
	case toExpunge:
		out.e, out.code = s.Expunge(a.box, a.uids)
	case toCopy:
		out.e, out.code = s.Copy(a.box, a.uids, a.name)
	case toMove:
		out.e, out.code = s.Move(a.box, a.uids, a.name)
	case toSubscribe:
		out.e, out.code = s.Subscribe(a.name)
	case toUnsubscribe:
		out.e, out.code = s.Unsubscribe(a.name)
	}
	return out
}

func (a ask) String() string {
	type plain ask
	return short(fmt.Sprintf("%+v", plain(a)))
}

func (a answer) String() string {
	return short(fmt.Sprintf("%+v, left out %v, %d", a.e, a.left, a.code))
}

func short(s string) string { return fmt.Sprintf("%.400s", s) }

// clone shares no memory with what it is made of.
func clone(e api.Event) api.Event {
	e.Names, e.Boxes, e.Uids, e.Marks = slices.Clone(e.Names), slices.Clone(e.Boxes), slices.Clone(e.Uids), slices.Clone(e.Marks)
	for i := range e.Marks {
		e.Marks[i].Flags = slices.Clone(e.Marks[i].Flags)
	}
	return e
}

// same takes a nil list and an empty one for one.
func same(a, b api.Event) bool {
	rest := func(e api.Event) api.Event {
		e.Names, e.Boxes, e.Uids, e.Marks = nil, nil, nil, nil
		return e
	}
	return reflect.DeepEqual(rest(a), rest(b)) && slices.Equal(a.Names, b.Names) && slices.Equal(a.Boxes, b.Boxes) && slices.Equal(a.Uids, b.Uids) &&
		slices.EqualFunc(a.Marks, b.Marks, func(m, o api.Mark) bool { return m.Uid == o.Uid && slices.Equal(m.Flags, o.Flags) })
}

func (a answer) same(b answer) bool {
	return a.code == b.code && same(a.e, b.e) && slices.Equal(a.left, b.left)
}

// begun is a store of its own numbers.
func begun(t *testing.T, validity, uid, number int) *store.Store {
	t.Helper()
	s, code := store.New(validity, uid, number)
	if s == nil || code != api.OK {
		t.Fatalf("New(%d, %d, %d): %d", validity, uid, number, code)
	}
	return s
}

// says holds one answer against what it must be; the store stays as it is.
func says(t *testing.T, s *store.Store, a ask, want answer) {
	t.Helper()
	before := s.Freeze()
	if got := a.of(s); !got.same(want) {
		t.Errorf("%v: %v, not %v", a, got, want)
	}
	if s.Freeze() != before {
		t.Errorf("%v changed the store", a)
	}
}

func refuses(t *testing.T, s *store.Store, a ask, code api.Errno) {
	t.Helper()
	says(t, s, a, answer{code: code})
}

// nothing: there is nothing to do.
func nothing(t *testing.T, s *store.Store, a ask, left ...int) {
	t.Helper()
	says(t, s, a, answer{left: left})
}

// plans the event.
func answers(t *testing.T, s *store.Store, a ask, want api.Event) {
	t.Helper()
	says(t, s, a, answer{e: want})
}

// done plans and applies.
func done(t *testing.T, s *store.Store, asks ...ask) {
	t.Helper()
	for _, a := range asks {
		got := a.of(s)
		if got.code != api.OK || got.e.Kind == 0 {
			t.Fatalf("%v: %v", a, got)
		}
		if may, code := s.May(got.e), s.Apply(got.e); may != api.OK || code != api.OK {
			t.Fatalf("%v: May %d, Apply %d of %v", a, may, code, got.e)
		}
	}
}

// told is all that a store tells, a line for each thing.
func told(s *store.Store) string {
	var out strings.Builder
	for _, b := range s.Boxes() {
		fmt.Fprintf(&out, "%q %d next %d highest %d count %d unseen %d %v", b.Name, b.Validity, b.Next, b.Highest, b.Count, b.Unseen, b.Keywords)
		if b.Subscribed {
			out.WriteString(" subscribed")
		}
		out.WriteString("\n")
		mails, code := s.Mails(b.Validity)
		if code != api.OK {
			fmt.Fprintln(&out, "Mails:", code)
		}
		for _, m := range mails {
			fmt.Fprintf(&out, "  %d: uid %d modseq %d %v %v %v %.40q %d\n", m.Seq, m.Uid, m.Modseq, m.Flags, m.Recent, m.Date, m.Raw, len(m.Raw))
		}
	}
	fmt.Fprintf(&out, "%q last %d", s.Subscribed(), s.Last())
	return out.String()
}

// lines is what told writes, as it stands in a test.
func lines(l ...string) string { return strings.Join(l, "\n") }

func makes(name string) ask { return ask{plan: toMake, name: name} }

func drops(name string) ask { return ask{plan: toDrop, name: name} }

func renames(from, to string) ask { return ask{plan: toRename, name: from, to: to} }

func adds(name, body string, flags ...string) ask {
	return ask{plan: toAdd, name: name, flags: flags, date: day, body: body}
}

// flags turns flags with nothing left out.
func flags(box, mode int, uids []int, list ...string) ask {
	return ask{plan: toFlag, box: box, uids: uids, mode: mode, flags: list, unchanged: -1}
}

func expunges(box int, uids ...int) ask { return ask{plan: toExpunge, box: box, uids: uids} }

func copies(box int, name string, uids ...int) ask {
	return ask{plan: toCopy, box: box, uids: uids, name: name}
}

func moves(box int, name string, uids ...int) ask {
	return ask{plan: toMove, box: box, uids: uids, name: name}
}

func subscribes(name string) ask { return ask{plan: toSubscribe, name: name} }

func unsubscribes(name string) ask { return ask{plan: toUnsubscribe, name: name} }

// upTo is 1 to n.
func upTo(n int) []int {
	var out []int
	for i := range n {
		out = append(out, i+1)
	}
	return out
}

// words is so many keywords that are unlike.
func words(n int) []string {
	var out []string
	for i := range n {
		out = append(out, fmt.Sprintf("w%02d", i))
	}
	return out
}

// full is a store (7, 1, 2) with as many mailboxes as there may be: INBOX and b01 to b15 (8 to 22).
func full(t *testing.T) *store.Store {
	t.Helper()
	s := begun(t, 7, 1, 2)
	for i := range 15 {
		done(t, s, makes(fmt.Sprintf("b%02d", i+1)))
	}
	return s
}

// ample has something of everything: mailboxes at all levels, copies, flags of all kinds, bodies of all bytes, a subscription that outlives its mailbox.
func ample(t *testing.T) *store.Store {
	t.Helper()
	s := begun(t, 7, 5, 300)
	done(t, s,
		makes("a/b"), makes("inbox/é"), makes("gone"), makes("a-b"),
		adds("a", "one\r\n\x00\xff", `\Seen`, "Work"), adds("a", "", `\Answered`, `\Deleted`, `\Draft`, `\Flagged`, `\Seen`), adds("a", "three", "work", "b", "A"),
		copies(8, "INBOX", 5, 6), adds("INBOX", strings.Repeat("x", 130), "WORK", "Z"), expunges(7, 6), subscribes("INBOX"), subscribes("gone"), drops("gone"), flags(7, 1, []int{5}, `\Flagged`),
	)
	return s
}

func oneOf[E any](r *rand.Rand, l ...E) E { return l[r.IntN(len(l))] }
