package tool_test

import (
	"fmt"
	"math/rand/v2"
	"reflect"
	"slices"
	"strings"
	"testing"

	"postbag/api"
	"postbag/event"
	"postbag/frame"
	"postbag/store"
	"postbag/tool"
)

const end = api.MaxNumber - 1 // the greatest number of a store

var (
	day   = api.Moment{Year: 2026, Month: 11, Day: 14, Hour: 10, Zone: 60}
	early = api.Moment{Year: 2000, Month: 2, Day: 1}
)

// allBytes is a text with all 256 bytes.
func allBytes() string {
	text := make([]byte, 256)
	for i := range text {
		text[i] = byte(i)
	}
	return string(text)
}

func begun(t *testing.T, validity, uid, number int) *store.Store {
	t.Helper()
	s, code := store.New(validity, uid, number)
	if s == nil || code != api.OK {
		t.Fatalf("New(%d, %d, %d): %d", validity, uid, number, code)
	}
	return s
}

func fresh(t *testing.T) *store.Store {
	t.Helper()
	return begun(t, 7, 1, 2)
}

// copyOf is a store that stands as another one, by way of its bytes.
func copyOf(t *testing.T, s *store.Store) *store.Store {
	t.Helper()
	if s.Freeze() == "" {
		return &store.Store{}
	}
	out, code := store.Thaw(s.Freeze())
	if code != api.OK {
		t.Fatalf("Thaw: %d", code)
	}
	return out
}

// plan is a plan with its arguments.
type plan func(s *store.Store) (api.Event, api.Errno)

func makes(name string) plan {
	return func(s *store.Store) (api.Event, api.Errno) { return s.Make(name) }
}

func drops(name string) plan {
	return func(s *store.Store) (api.Event, api.Errno) { return s.Drop(name) }
}

func renames(from, to string) plan {
	return func(s *store.Store) (api.Event, api.Errno) { return s.Rename(from, to) }
}

func adds(name, body string, flags ...string) plan {
	return func(s *store.Store) (api.Event, api.Errno) { return s.Add(name, flags, day, body) }
}

func addsOn(date api.Moment, name, body string, flags ...string) plan {
	return func(s *store.Store) (api.Event, api.Errno) { return s.Add(name, flags, date, body) }
}

func turns(box, mode int, uids []int, flags ...string) plan {
	return func(s *store.Store) (api.Event, api.Errno) {
		e, _, code := s.Flags(box, uids, mode, flags, -1)
		return e, code
	}
}

func expunges(box int, uids ...int) plan {
	return func(s *store.Store) (api.Event, api.Errno) { return s.Expunge(box, uids) }
}

func copies(box int, name string, uids ...int) plan {
	return func(s *store.Store) (api.Event, api.Errno) { return s.Copy(box, uids, name) }
}

func moves(box int, name string, uids ...int) plan {
	return func(s *store.Store) (api.Event, api.Errno) { return s.Move(box, uids, name) }
}

func subscribes(name string) plan {
	return func(s *store.Store) (api.Event, api.Errno) { return s.Subscribe(name) }
}

func unsubscribes(name string) plan {
	return func(s *store.Store) (api.Event, api.Errno) { return s.Unsubscribe(name) }
}

// done plans and applies, and answers the events.
func done(t *testing.T, s *store.Store, plans ...plan) []api.Event {
	t.Helper()
	var out []api.Event
	for i, p := range plans {
		e, code := p(s)
		if code != api.OK || e.Kind == 0 || s.Apply(e) != api.OK {
			t.Fatalf("plan %d: %d, %+v", i, code, e)
		}
		out = append(out, e)
	}
	return out
}

// apply applies events, which must fit.
func apply(t *testing.T, s *store.Store, events ...api.Event) {
	t.Helper()
	for _, e := range events {
		if s.Apply(e) != api.OK {
			t.Fatalf("%+v does not fit", e)
		}
	}
}

// story is plans with events of every kind; they begin with a store (7, 1, 2).
func story() []plan {
	return []plan{
		makes(`a/"b\`), adds("inbox", "x\n", `\Seen`, "k"), adds("INBOX", allBytes()), adds("a", ""),
		turns(7, 0, []int{1}), turns(7, 1, []int{1, 2}, `\Flagged`, "z", "K"), copies(7, "a", 1, 2), subscribes(`a/"b\`),
		moves(8, "inbox", 1, 3), expunges(7, 2, 3), renames("a", "x/é"), renames("INBOX", "old/er"), drops("x/é/\"b\\"), unsubscribes(`a/"b\`),
	}
}

// told is what Dump says of the story's events.
func told() []string {
	return []string{
		`2 make "a" 8 "a/\"b\\" 9`,
		`3 add 7 1 "14-Nov-2026 10:00:00 +0100" (\Seen k) "x\n"`,
		`4 add 7 2 "14-Nov-2026 10:00:00 +0100" () ` + slowQuoted(allBytes()),
		`5 add 8 1 "14-Nov-2026 10:00:00 +0100" () ""`,
		`6 flags 7 1 ()`,
		`7 flags 7 1 (\Flagged K z) 2 (\Flagged K z)`,
		`8 copy 7 to 8 at 2 1 2`,
		`9 subscribe "a/\"b\\"`,
		`10 move 8 to 7 at 3 1 3`,
		`11 expunge 7 2 3`,
		`12 rename 8 "x" 10 "x/\xc3\xa9" 11 "x/\xc3\xa9/\"b\\" 12`,
		`13 inbox 7 "old" 13 "old/er" 14`,
		`14 drop 12`,
		`15 unsubscribe "a/\"b\\"`,
	}
}

// rich is a store behind the story's first plans, so many that it has something of everything.
func rich(t *testing.T) *store.Store {
	t.Helper()
	s := fresh(t)
	done(t, s, story()[:10]...)
	return s
}

func bodyOf(t *testing.T, e api.Event) string {
	t.Helper()
	body, code := event.Encode(e)
	if code != api.OK {
		t.Fatalf("%+v: %d", e, code)
	}
	return body
}

func framed(t *testing.T, kind, number int, body string) string {
	t.Helper()
	f, code := frame.Encode(kind, number, body)
	if code != api.OK {
		t.Fatalf("a frame %d of the kind %d: %d", number, kind, code)
	}
	return f
}

// frames are the frames of events.
func frames(t *testing.T, events ...api.Event) []string {
	t.Helper()
	var out []string
	for _, e := range events {
		out = append(out, framed(t, api.FrameEvent, e.Number, bodyOf(t, e)))
	}
	return out
}

func joined(list []string) string { return strings.Join(list, "") }

// inLines has a line's end behind each.
func inLines(list ...string) string { return strings.Join(append(slices.Clone(list), ""), "\n") }

// inShort is a text that may be long.
func inShort(text string) string {
	if len(text) > 600 {
		return fmt.Sprintf("%q .. %q (%d)", text[:300], text[len(text)-200:], len(text))
	}
	return fmt.Sprintf("%q", text)
}

func wantDump(t *testing.T, journal string, want ...string) {
	t.Helper()
	if got := tool.Dump(journal); got != inLines(want...) {
		t.Errorf("P21.1: Dump is\n%.1500s\nnot\n%.1500s", got, inLines(want...))
	}
}

func old(where int) api.Finding { return api.Finding{Kind: 1, Where: where, Text: "old"} }

func gap(where int) api.Finding { return api.Finding{Kind: 2, Where: where, Text: "gap"} }

func unreadable(where int) api.Finding { return api.Finding{Kind: 3, Where: where, Text: "unreadable"} }

func misfit(where int) api.Finding { return api.Finding{Kind: 4, Where: where, Text: "misfit"} }

func rest(where int) api.Finding { return api.Finding{Kind: 5, Where: where, Text: "rest"} }

// wantCheck holds what Check tells; the store stays as it is.
func wantCheck(t *testing.T, what string, s *store.Store, journal string, want ...api.Finding) {
	t.Helper()
	was := s.Freeze()
	if got := tool.Check(s, journal); !slices.Equal(got, want) {
		t.Errorf("P21.2: %s: Check is\n%+v\nnot\n%+v", what, got, want)
	}
	if s.Freeze() != was {
		t.Errorf("P21.2: %s: the store is not as it was", what)
	}
}

// exported is what Export must say of a mailbox that is there.
func exported(t *testing.T, s *store.Store, name string) string {
	t.Helper()
	text, code := tool.Export(s, name)
	if code != api.OK {
		t.Fatalf("P21.3: Export of %q: %d", name, code)
	}
	return text
}

// imported is what Import must take.
func imported(t *testing.T, s *store.Store, name, text string) []api.Event {
	t.Helper()
	events, code := tool.Import(s, name, text)
	if code != api.OK {
		t.Fatalf("P21.4: Import of %s into %q: %d", inShort(text), name, code)
	}
	return events
}

// refuses holds that Import refuses a text; the store stays as it is.
func refuses(t *testing.T, s *store.Store, name, text string, want api.Errno) {
	t.Helper()
	was := s.Freeze()
	if events, code := tool.Import(s, name, text); code != want || events != nil {
		t.Errorf("P21.4: Import of %s into %q: %d, %.300s, not %d", inShort(text), name, code, fmt.Sprintf("%+v", events), want)
	}
	if s.Freeze() != was {
		t.Errorf("P21.4: %s: the store is not as it was", inShort(text))
	}
}

// wantCompare holds what two stores differ in, this way round and the other one.
func wantCompare(t *testing.T, what string, a, b *store.Store, want ...string) {
	t.Helper()
	wasA, wasB := a.Freeze(), b.Freeze()
	if got := tool.Compare(a, b); !slices.Equal(got, want) {
		t.Errorf("P21.6: %s: Compare is\n%s\nnot\n%s", what, strings.Join(got, "\n"), strings.Join(want, "\n"))
	}
	if a.Freeze() != wasA || b.Freeze() != wasB {
		t.Errorf("P21.6: %s: a store is not as it was", what)
	}
}

func oneOf[E any](r *rand.Rand, list ...E) E { return list[r.IntN(len(list))] }

// sameEvent takes a nil list and an empty one for one.
func sameEvent(a, b api.Event) bool {
	rest := func(e api.Event) api.Event {
		e.Names, e.Boxes, e.Uids, e.Marks = nil, nil, nil, nil
		return e
	}
	return reflect.DeepEqual(rest(a), rest(b)) && slices.Equal(a.Names, b.Names) && slices.Equal(a.Boxes, b.Boxes) && slices.Equal(a.Uids, b.Uids) &&
		slices.EqualFunc(a.Marks, b.Marks, func(m, o api.Mark) bool { return m.Uid == o.Uid && slices.Equal(m.Flags, o.Flags) })
}
