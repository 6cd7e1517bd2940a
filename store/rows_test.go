package store_test

import (
	"math/rand/v2"
	"strings"
	"testing"

	"postbag/api"
	"postbag/store"
)

func someName(r *rand.Rand, m *slow) string {
	if r.IntN(2) == 0 && len(m.boxes) > 0 {
		name := oneOf(r, m.names()...)
		switch r.IntN(8) {
		case 0:
			return strings.ToLower(name)
		case 1:
			return name + "/" + oneOf(r, "x", "INBOX", "b", "1/2")
		case 2:
			return name + oneOf(r, "/", "-", "%", "//x")
		}
		return name
	}
	if r.IntN(12) == 0 {
		return oneOf(r, noNames...)
	}
	return oneOf(r, "a", "b", "c", "a/b", "a/b/c", "a-b", "A", "x/y", "x/y/z", "inbox", "INBOX", "Inbox/x", "INBOX/x/y", "1/2/3/4/5/6", "1/2/3", "é", "日/本", "gone", strings.Repeat("n", 32), longest)
}

func someBox(r *rand.Rand, m *slow) int {
	if len(m.boxes) == 0 || r.IntN(15) == 0 {
		return oneOf(r, 0, -1, 1, m.validity, m.validity-1, m.validity+1, end, most, least)
	}
	if r.IntN(4) > 0 { // one of the few that are filled
		return m.boxes[oneOf(r, m.names()[:min(len(m.boxes), 3)]...)].validity
	}
	return m.boxes[oneOf(r, m.names()...)].validity
}

// someUids are those of a mailbox as a rule.
func someUids(r *rand.Rand, m *slow, box int) []int {
	var out []int
	b := m.boxes[m.by(box)]
	if b == nil || r.IntN(15) == 0 {
		return oneOf(r, nil, []int{}, []int{1}, []int{2, 1}, []int{1, 1}, []int{0}, []int{-5, 3}, []int{end, end + 1}, make([]int, 65), make([]int, 64))
	}
	share := oneOf(r, 0, 1, 2, 4, 4)
	for _, mail := range b.mails {
		if r.IntN(4) < share {
			out = append(out, mail.uid)
		}
	}
	if r.IntN(25) == 0 {
		out = append(out, b.next)
	}
	return out
}

func someFlags(r *rand.Rand) []string {
	var out []string
	if r.IntN(40) == 0 {
		return oneOf(r, make([]string, 17), []string{`\Recent`}, []string{"a b"}, []string{""}, words(9), words(16), []string{strings.Repeat("k", 24)}, []string{strings.Repeat("k", 25)})
	}
	for range r.IntN(oneOf(r, 2, 4, 9)) {
		f := oneOf(r, `\Seen`, `\Answered`, `\Deleted`, `\Draft`, `\Flagged`, "work", "zed", "b", "_", "nil", "junk", "one", "two", "three", "four", "$x")
		if r.IntN(3) == 0 {
			f = strings.ToUpper(f)
		}
		out = append(out, f)
	}
	return out
}

func someAsk(r *rand.Rand, m *slow) ask {
	a := ask{plan: oneOf(r, append(plans, toAdd, toAdd, toFlag, toFlag, toCopy, toCopy, toMake)...), name: someName(r, m), to: someName(r, m), box: someBox(r, m), flags: someFlags(r)}
	if fills := a.plan == toAdd || a.plan == toCopy || a.plan == toMove; fills && len(m.boxes) > 0 && r.IntN(4) > 0 {
		a.name = oneOf(r, m.names()[:min(len(m.boxes), 3)]...)
	}
	a.uids = someUids(r, m, a.box)
	a.mode = oneOf(r, 0, 1, 1, -1)
	a.unchanged = oneOf(r, -1, -1, -1, 0, m.last, m.last-r.IntN(10), api.MaxNumber)
	a.date, a.body = day, oneOf(r, "", "x", "two\r\n", strings.Repeat("y", r.IntN(300)))
	a.date.Second = r.IntN(60)
	switch r.IntN(60) {
	case 0:
		a.mode = oneOf(r, 2, -2, most, least)
	case 1:
		a.unchanged = oneOf(r, -2, least, most, api.MaxNumber+1)
	case 2:
		a.date = oneOf(r, api.Moment{}, api.Moment{Year: 2026, Month: 2, Day: 29}, api.Moment{Year: 2026, Month: 1, Day: 1, Zone: 1440})
	case 3:
		a.body = strings.Repeat("z", api.MaxLiteral+r.IntN(2))
	}
	return a
}

// history is what was ever told of a store, for P12.17.
type history struct {
	greatest int                 // of all validities
	last     int                 // event
	next     map[int]int         // by validity; -1: it is no more
	mails    map[[2]int]api.Mail // by validity and uid
}

func (h *history) look(t *testing.T, s *store.Store) {
	t.Helper()
	there := map[int]bool{}
	for _, b := range s.Boxes() {
		there[b.Validity] = true
		switch next, known := h.next[b.Validity]; {
		case !known && b.Validity <= h.greatest, next < 0:
			t.Fatalf("the validity %d comes again", b.Validity)
		case b.Next < next:
			t.Fatalf("next falls: %+v, it was %d", b, next)
		case b.Highest > s.Last() || b.Next < 1 || b.Next > api.MaxNumber:
			t.Fatalf("%+v, Last %d", b, s.Last())
		}
		h.next[b.Validity] = b.Next
		h.greatest = max(h.greatest, b.Validity)
		mails, _ := s.Mails(b.Validity)
		for i, m := range mails {
			was, known := h.mails[[2]int{b.Validity, m.Uid}]
			if i > 0 && mails[i-1].Uid >= m.Uid || m.Uid >= b.Next || m.Modseq > b.Highest || known && (was.Raw != m.Raw || was.Date != m.Date || was.Modseq > m.Modseq) {
				t.Fatalf("%+v: %+v, it was %+v", b, m, was)
			}
			h.mails[[2]int{b.Validity, m.Uid}] = m
		}
	}
	for validity := range h.next {
		if !there[validity] {
			h.next[validity] = -1
		}
	}
	if s.Last() < h.last {
		t.Fatalf("Last falls: %d", s.Last())
	}
	h.last = s.Last()
}

// outcome is what came of a plan; zero: without an event.
type outcome struct {
	plan string
	code api.Errno
	zero bool
}

// wanted are the outcomes that random rows must have seen, so that they are no rows of one kind alone.
func wanted() []outcome {
	var out []outcome
	for _, plan := range plans {
		out = append(out, outcome{plan, api.OK, false}, outcome{plan, api.ErrEnd, true})
	}
	for plan, codes := range map[string][]api.Errno{
		toMake: {api.ErrCannot, api.ErrThere, api.ErrLimit}, toDrop: {api.ErrCannot, api.ErrBox, api.ErrInferior}, toRename: {api.ErrCannot, api.ErrBox, api.ErrThere, api.ErrLimit},
		toAdd: {api.ErrLong, api.ErrCannot, api.ErrMark, api.ErrArg, api.ErrBox, api.ErrLimit}, toFlag: {api.OK, api.ErrLong, api.ErrArg, api.ErrMark, api.ErrNumber, api.ErrBox, api.ErrUid, api.ErrLimit},
		toExpunge: {api.OK, api.ErrLong, api.ErrBox, api.ErrUid}, toCopy: {api.OK, api.ErrLong, api.ErrCannot, api.ErrBox, api.ErrUid, api.ErrLimit}, toMove: {api.OK, api.ErrLong, api.ErrCannot, api.ErrBox, api.ErrUid, api.ErrLimit},
		toSubscribe: {api.OK, api.ErrBox}, toUnsubscribe: {api.OK, api.ErrBox},
	} {
		for _, code := range codes {
			out = append(out, outcome{plan, code, true})
		}
	}
	return out
}

// row is a store and the one of the other make, which go on together.
type row struct {
	s    *store.Store
	m    *slow
	past history
	old  []api.Event // planned a while ago
}

// plans holds a plan against the other make's; it changes nothing.
func (w *row) plans(t *testing.T, a ask) answer {
	t.Helper()
	before, want := w.s.Freeze(), w.m.plan(a)
	got := a.of(w.s)
	if !got.same(want) {
		t.Fatalf("%v: %v, not %v, of\n%s", a, got, want, short(w.m.told()))
	}
	if w.s.Freeze() != before {
		t.Fatalf("%v changed the store", a)
	}
	return got
}

// forged asks for events that are like a planned one, or were planned a while ago; it is how many of them may be.
func (w *row) forged(t *testing.T, r *rand.Rand, e api.Event) int {
	t.Helper()
	fit := 0
	all := turnings(e)
	for _, e := range append(all[r.IntN(len(all)-4):][:4:4], w.old...) {
		may, code := w.m.may(e), w.s.May(e)
		if (code == api.OK) != may || code != api.OK && code != api.ErrFit {
			t.Fatalf("May(%+v): %d, of\n%s", e, code, short(w.m.told()))
		}
		if may {
			fit++
		}
	}
	w.old = append(w.old, clone(e))
	w.old = w.old[max(0, len(w.old)-5):]
	return fit
}

// applies an event that was planned, and looks at all that there is then.
func (w *row) applies(t *testing.T, e api.Event) {
	t.Helper()
	if may, code := w.s.May(e), w.s.Apply(e); may != api.OK || code != api.OK {
		t.Fatalf("May %d, Apply %d of %+v", may, code, e)
	}
	w.m.apply(e)
	if told(w.s) != w.m.told() || w.s.Freeze() != w.m.freeze() {
		t.Fatalf("behind %+v:\n%s\nnot\n%s", e, told(w.s), w.m.told())
	}
	w.past.look(t, w.s)
}

// P12.2 to P12.18: random rows of plans and events, each held against the other make.
func TestRows(t *testing.T) {
	t.Parallel()
	seen, kinds, fit := map[outcome]int{}, map[int]int{}, 0
	for seed := range uint64(80) {
		r := rand.New(rand.NewPCG(12, seed))
		validity, uid, number := oneOf(r, 1, 7, 100, end-60, end-5), oneOf(r, 1, 1, 50, end-40, end-3), oneOf(r, 2, 2, 300, end-60, end-120)
		w := &row{s: begun(t, validity, uid, number), m: slowNew(validity, uid, number), past: history{next: map[int]int{}, mails: map[[2]int]api.Mail{}}}
		w.past.look(t, w.s)
		for range 250 {
			a := someAsk(r, w.m)
			got := w.plans(t, a)
			seen[outcome{a.plan, got.code, got.e.Kind == 0}]++
			if got.code == api.OK && got.e.Kind != 0 {
				kinds[got.e.Kind]++
				if r.IntN(4) == 0 {
					fit += w.forged(t, r, got.e)
				}
				if r.IntN(5) > 0 {
					w.applies(t, got.e)
				}
			}
			switch r.IntN(40) {
			case 0:
				w.s = w.s.Twin()
			case 1:
				w.s = thaws(t, "in a row", w.s.Freeze())
			}
		}
	}
	for _, o := range wanted() {
		if seen[o] == 0 {
			t.Errorf("never seen: %+v", o)
		}
	}
	if len(kinds) != 11 || fit == 0 {
		t.Errorf("kinds %v, forged ones %d", kinds, fit)
	}
}

// P12.15: random plans of nothing.
func TestRowsOfNothing(t *testing.T) {
	r := rand.New(rand.NewPCG(12, 15))
	some := slowNew(7, 1, 2)
	for range 4000 {
		a := someAsk(r, some)
		want := (&slow{}).plan(a)
		for _, s := range []*store.Store{nil, {}} {
			if got := a.of(s); !got.same(want) {
				t.Fatalf("%v: %v, not %v", a, got, want)
			}
		}
	}
}

// P12.16: what a plan answers may be applied at once; the same plan need not answer the same behind it.
func TestPlanThenApply(t *testing.T) {
	for kind, a := range every() {
		s := rich(t)
		before := told(s) + s.Freeze()
		first, second := a.of(s), a.of(s)
		if !first.same(second) || first.code != api.OK || told(s)+s.Freeze() != before {
			t.Errorf("kind %d: a plan changes something", kind)
		}
		if s.Apply(second.e) != api.OK {
			t.Errorf("kind %d: not applied", kind)
		}
		if third := a.of(s); third.same(first) {
			t.Errorf("kind %d: %v again", kind, third)
		}
	}
}
