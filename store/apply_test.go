package store_test

import (
	"reflect"
	"slices"
	"strings"
	"testing"

	"postbag/api"
	"postbag/store"
)

// misfits: an event may not be, and nothing comes of it.
func misfits(t *testing.T, s *store.Store, why string, e api.Event) {
	t.Helper()
	before, was := s.Freeze(), clone(e)
	if may, code := s.May(e), s.Apply(e); may != api.ErrFit || code != api.ErrFit {
		t.Errorf("%s: May %d, Apply %d of %+v", why, may, code, e)
	}
	if s.Freeze() != before || !same(e, was) {
		t.Errorf("%s: changed by %+v", why, e)
	}
}

// looks tells all at once what is wrong with what a store tells.
func looks(t *testing.T, why string, s *store.Store, want ...string) {
	t.Helper()
	if got := told(s); got != lines(want...) {
		t.Errorf("%s:\n%s\nnot\n%s", why, got, lines(want...))
	}
}

const stamp = "{2026 11 14 17 0 0 -480}"

// P12.10: what Make, Drop, Rename and Inbox do.
func TestApplyBoxes(t *testing.T) {
	s := begun(t, 7, 40, 100)
	done(t, s, makes("a/b"))
	looks(t, "Make", s, `"INBOX" 7 next 40 highest 99 count 0 unseen 0 []`, `"a" 8 next 40 highest 100 count 0 unseen 0 []`, `"a/b" 9 next 40 highest 100 count 0 unseen 0 []`, `[] last 100`)
	done(t, s, adds("a", "x", "k"), adds("a/b", "y", `\Seen`), adds("INBOX", "z"), expunges(9, 40), makes("inbox/x"), subscribes("a"), makes("A"))
	done(t, s, renames("a", "c/d"))
	looks(t, "Rename", s,
		`"A" 11 next 40 highest 107 count 0 unseen 0 []`, `"INBOX" 7 next 41 highest 103 count 1 unseen 1 []`, `  1: uid 40 modseq 103 [] false `+stamp+` "z" 1`, `"INBOX/x" 10 next 40 highest 105 count 0 unseen 0 []`,
		`"c" 12 next 40 highest 108 count 0 unseen 0 []`, `"c/d" 13 next 41 highest 108 count 1 unseen 1 [k]`, `  1: uid 40 modseq 101 [k] false `+stamp+` "x" 1`, `"c/d/b" 14 next 41 highest 108 count 0 unseen 0 []`,
		`["a"] last 108`)
	done(t, s, flags(7, 0, []int{40}, "w", `\Seen`), adds("INBOX", "zz"), subscribes("c/d"), renames("INBOX", "c/e/f"))
	looks(t, "Inbox", s,
		`"A" 11 next 40 highest 107 count 0 unseen 0 []`, `"INBOX" 7 next 42 highest 112 count 0 unseen 0 []`, `"INBOX/x" 10 next 40 highest 105 count 0 unseen 0 []`, `"c" 12 next 40 highest 108 count 0 unseen 0 []`,
		`"c/d" 13 next 41 highest 108 count 1 unseen 1 [k] subscribed`, `  1: uid 40 modseq 101 [k] false `+stamp+` "x" 1`, `"c/d/b" 14 next 41 highest 108 count 0 unseen 0 []`, `"c/e" 15 next 40 highest 112 count 0 unseen 0 []`,
		`"c/e/f" 16 next 42 highest 112 count 2 unseen 1 [w]`, `  1: uid 40 modseq 112 [\Seen w] false `+stamp+` "z" 1`, `  2: uid 41 modseq 112 [] false `+stamp+` "zz" 2`, `["a" "c/d"] last 112`)
	done(t, s, drops("c/d/b"), drops("c/d"), drops("A"), drops("inbox/x"))
	looks(t, "Drop", s,
		`"INBOX" 7 next 42 highest 112 count 0 unseen 0 []`, `"c" 12 next 40 highest 108 count 0 unseen 0 []`, `"c/e" 15 next 40 highest 112 count 0 unseen 0 []`, `"c/e/f" 16 next 42 highest 112 count 2 unseen 1 [w]`,
		`  1: uid 40 modseq 112 [\Seen w] false `+stamp+` "z" 1`, `  2: uid 41 modseq 112 [] false `+stamp+` "zz" 2`, `["a" "c/d"] last 116`)
	if _, code := s.By(13); code != api.ErrBox {
		t.Errorf("By of a mailbox that is no more: %d", code)
	}
	done(t, s, makes("c/d")) // the next validity; nothing of the former one
	if b, _ := s.Box("c/d"); b.Validity != 17 || b.Next != 40 || b.Count != 0 || !b.Subscribed {
		t.Errorf("made again: %+v", b)
	}
	done(t, s, renames("inbox", "old"), adds("INBOX", "")) // nothing to bring, and uids that go on
	if b, _ := s.Box("INBOX"); b.Next != 43 || b.Count != 1 {
		t.Errorf("INBOX behind Inbox: %+v", b)
	}
}

// P12.10: what Add, Flags, Expunge, Copy, Move, Subscribe and Unsubscribe do.
func TestApplyMails(t *testing.T) {
	s := begun(t, 7, 1, 2)
	done(t, s, makes("a"), adds("a", "one", `\seen`, "Work"), ask{plan: toAdd, name: "a", date: api.Moment{Year: 1, Month: 1, Day: 1, Zone: 9}, body: "two\r\n"})
	looks(t, "Add", s, `"INBOX" 7 next 1 highest 1 count 0 unseen 0 []`, `"a" 8 next 3 highest 4 count 2 unseen 1 [Work]`,
		`  1: uid 1 modseq 3 [\Seen Work] false `+stamp+` "one" 3`, `  2: uid 2 modseq 4 [] false {1 1 1 0 0 0 9} "two\r\n" 5`, `[] last 4`)
	done(t, s, adds("a", "three", "zed"), flags(8, 1, []int{1, 2}, "new", `\Flagged`))
	looks(t, "Flags", s, `"INBOX" 7 next 1 highest 1 count 0 unseen 0 []`, `"a" 8 next 4 highest 6 count 3 unseen 2 [new Work zed]`,
		`  1: uid 1 modseq 6 [\Flagged \Seen new Work] false `+stamp+` "one" 3`, `  2: uid 2 modseq 6 [\Flagged new] false {1 1 1 0 0 0 9} "two\r\n" 5`, `  3: uid 3 modseq 5 [zed] false `+stamp+` "three" 5`, `[] last 6`)
	done(t, s, adds("INBOX", "", "WORK", "NEW"), copies(8, "INBOX", 1, 2, 3))
	looks(t, "Copy", s, `"INBOX" 7 next 5 highest 8 count 4 unseen 3 [NEW WORK zed]`, `  1: uid 1 modseq 7 [NEW WORK] false `+stamp+` "" 0`,
		`  2: uid 2 modseq 8 [\Flagged \Seen NEW WORK] false `+stamp+` "one" 3`, `  3: uid 3 modseq 8 [\Flagged NEW] false {1 1 1 0 0 0 9} "two\r\n" 5`, `  4: uid 4 modseq 8 [zed] false `+stamp+` "three" 5`,
		`"a" 8 next 4 highest 6 count 3 unseen 2 [new Work zed]`,
		`  1: uid 1 modseq 6 [\Flagged \Seen new Work] false `+stamp+` "one" 3`, `  2: uid 2 modseq 6 [\Flagged new] false {1 1 1 0 0 0 9} "two\r\n" 5`, `  3: uid 3 modseq 5 [zed] false `+stamp+` "three" 5`, `[] last 8`)
	done(t, s, expunges(7, 1, 3))
	looks(t, "Expunge", s, `"INBOX" 7 next 5 highest 9 count 2 unseen 1 [NEW WORK zed]`,
		`  1: uid 2 modseq 8 [\Flagged \Seen NEW WORK] false `+stamp+` "one" 3`, `  2: uid 4 modseq 8 [zed] false `+stamp+` "three" 5`, `"a" 8 next 4 highest 6 count 3 unseen 2 [new Work zed]`,
		`  1: uid 1 modseq 6 [\Flagged \Seen new Work] false `+stamp+` "one" 3`, `  2: uid 2 modseq 6 [\Flagged new] false {1 1 1 0 0 0 9} "two\r\n" 5`, `  3: uid 3 modseq 5 [zed] false `+stamp+` "three" 5`, `[] last 9`)
	done(t, s, moves(8, "INBOX", 2, 3))
	looks(t, "Move", s, `"INBOX" 7 next 7 highest 10 count 4 unseen 3 [NEW WORK zed]`,
		`  1: uid 2 modseq 8 [\Flagged \Seen NEW WORK] false `+stamp+` "one" 3`, `  2: uid 4 modseq 8 [zed] false `+stamp+` "three" 5`,
		`  3: uid 5 modseq 10 [\Flagged NEW] false {1 1 1 0 0 0 9} "two\r\n" 5`, `  4: uid 6 modseq 10 [zed] false `+stamp+` "three" 5`, `"a" 8 next 4 highest 10 count 1 unseen 0 [new Work]`,
		`  1: uid 1 modseq 6 [\Flagged \Seen new Work] false `+stamp+` "one" 3`, `[] last 10`)
	done(t, s, moves(7, "INBOX", 2, 5), copies(8, "a", 1), subscribes("a"), subscribes("INBOX"))
	looks(t, "into itself", s, `"INBOX" 7 next 9 highest 11 count 4 unseen 3 [NEW WORK zed] subscribed`,
		`  1: uid 4 modseq 8 [zed] false `+stamp+` "three" 5`, `  2: uid 6 modseq 10 [zed] false `+stamp+` "three" 5`, `  3: uid 7 modseq 11 [\Flagged \Seen NEW WORK] false `+stamp+` "one" 3`,
		`  4: uid 8 modseq 11 [\Flagged NEW] false {1 1 1 0 0 0 9} "two\r\n" 5`, `"a" 8 next 5 highest 12 count 2 unseen 0 [new Work] subscribed`,
		`  1: uid 1 modseq 6 [\Flagged \Seen new Work] false `+stamp+` "one" 3`, `  2: uid 4 modseq 12 [\Flagged \Seen new Work] false `+stamp+` "one" 3`, `["INBOX" "a"] last 14`)
	done(t, s, unsubscribes("INBOX"), expunges(7, 4, 6, 7, 8), flags(8, 0, []int{1, 4}))
	looks(t, "Unsubscribe", s, `"INBOX" 7 next 9 highest 16 count 0 unseen 0 []`, `"a" 8 next 5 highest 17 count 2 unseen 2 [] subscribed`,
		`  1: uid 1 modseq 17 [] false `+stamp+` "one" 3`, `  2: uid 4 modseq 17 [] false `+stamp+` "one" 3`, `["a"] last 17`)
}

// every is an ask for each kind of events; on the store of rich.
func every() map[int]ask {
	return map[int]ask{
		api.EventMake: makes("n/e/w"), api.EventDrop: drops("a/b"), api.EventRename: renames("a", "r/s"), api.EventInbox: renames("INBOX", "old/er"), api.EventAdd: adds("a", "body", `\Seen`, "Work", "new"),
		api.EventFlags: flags(8, 1, []int{1, 3}, "new", `\Flagged`), api.EventExpunge: expunges(8, 1, 3), api.EventCopy: copies(8, "INBOX", 1, 3), api.EventMove: moves(8, "INBOX", 1, 3),
		api.EventSubscribe: subscribes("a/b"), api.EventUnsubscribe: unsubscribes("a"),
	}
}

// rich has INBOX (7), a (8), a/b (9), c (10), messages in all and a subscription; its next event is 11.
func rich(t *testing.T) *store.Store {
	t.Helper()
	s := begun(t, 7, 1, 2)
	done(t, s, makes("a/b"), adds("a", "one", "Work"), adds("a", "two"), adds("a", "three", `\Seen`, "zed"), adds("INBOX", "four", "wORK"), adds("a/b", "five"), makes("c"), subscribes("a"), adds("c", ""))
	if s.Last() != 10 {
		t.Fatal(s.Last())
	}
	return s
}

// turnings are many events that differ from one in one field.
func turnings(e api.Event) []api.Event {
	var out []api.Event
	turn := func(f func(e *api.Event)) {
		other := clone(e)
		if f(&other); !same(other, e) {
			out = append(out, other)
		}
	}
	numbers := []int{least, -1, 0, 1, 2, 3, 7, 8, 9, 10, 11, 12, end, end + 1, most}
	texts := []string{"", "a", "A", "a/b", "c", "d", "INBOX", "inbox", "inbox/x", "INBOX/x", "n", "n/e", "n/e/w", "r/s", "x%", "new", "NEW", "Work", "WORK", "zed", `\Seen`, `\seen`, `\Draft`, `\Recent`, "a b"}
	for _, n := range numbers {
		turn(func(e *api.Event) { e.Number = n })
		turn(func(e *api.Event) { e.Kind = n })
		turn(func(e *api.Event) { e.Box = n })
		turn(func(e *api.Event) { e.To = n })
		turn(func(e *api.Event) { e.First = n })
		turn(func(e *api.Event) { e.Boxes = append(e.Boxes, n) })
		turn(func(e *api.Event) { e.Uids = append(e.Uids, n) })
		turn(func(e *api.Event) { e.Uids = append([]int{n}, e.Uids...) })
		turn(func(e *api.Event) { e.Marks = append(e.Marks, api.Mark{Uid: n}) })
		turn(func(e *api.Event) { e.Marks = append([]api.Mark{{Uid: n}}, e.Marks...) })
		for i := range e.Boxes {
			turn(func(e *api.Event) { e.Boxes[i] = n })
		}
		for i := range e.Uids {
			turn(func(e *api.Event) { e.Uids[i] = n })
		}
		for i := range e.Marks {
			turn(func(e *api.Event) { e.Marks[i].Uid = n })
		}
	}
	for _, text := range texts {
		turn(func(e *api.Event) { e.Name = text })
		turn(func(e *api.Event) { e.Body = text })
		turn(func(e *api.Event) { e.Names = append(e.Names, text) })
		turn(func(e *api.Event) { e.Names = append([]string{text}, e.Names...) })
		for i := range e.Names {
			turn(func(e *api.Event) { e.Names[i] = text })
		}
		for i := range e.Marks {
			turn(func(e *api.Event) { e.Marks[i].Flags = append(e.Marks[i].Flags, text) })
			turn(func(e *api.Event) { e.Marks[i].Flags = append([]string{text}, e.Marks[i].Flags...) })
			turn(func(e *api.Event) { e.Marks[i].Flags = []string{text} })
			for j := range e.Marks[i].Flags {
				turn(func(e *api.Event) { e.Marks[i].Flags[j] = text })
			}
		}
	}
	for _, list := range [][]string{nil, words(8), words(9), words(17), {`\Seen`, "Work", "zed"}, {`\Flagged`, `\Seen`}, {"new", "Work"}} {
		for i := range e.Marks {
			turn(func(e *api.Event) { e.Marks[i].Flags = list })
		}
	}
	turn(func(e *api.Event) { e.Date = day })
	turn(func(e *api.Event) { e.Date = api.Moment{} })
	turn(func(e *api.Event) { e.Date.Second = 1 })
	turn(func(e *api.Event) { e.Date.Zone = 1440 })
	turn(func(e *api.Event) { e.Body = strings.Repeat("x", api.MaxLiteral+1) })
	for _, field := range []string{"Names", "Boxes", "Uids", "Marks"} {
		at := func(e *api.Event) reflect.Value { return reflect.ValueOf(e).Elem().FieldByName(field) }
		n := at(&e).Len()
		turn(func(e *api.Event) { at(e).SetZero() })
		turn(func(e *api.Event) {
			for range 200 {
				at(e).Set(reflect.AppendSlice(at(e), at(e).Slice(0, min(n, 1))))
			}
		})
		for i := range n {
			turn(func(e *api.Event) { at(e).Set(reflect.AppendSlice(at(e).Slice(0, i), at(e).Slice(i+1, n))) })
			turn(func(e *api.Event) { swap := reflect.Swapper(at(e).Interface()); swap(i, (i+1)%n) })
		}
	}
	return out
}

// P12.10: each kind's event as its plan answers it, twice, and with each of its fields turned.
func TestMay(t *testing.T) {
	for kind, a := range every() {
		s := rich(t)
		m := thawed(t, s)
		e := a.of(s).e
		if e.Kind != kind || e.Number != 11 || !m.may(e) {
			t.Fatalf("%d: %v", kind, e)
		}
		fit := 0
		for _, other := range turnings(e) {
			if m.may(other) {
				fit++
				before := s.Freeze()
				twin := s.Twin()
				if may, code := s.May(other), twin.Apply(other); may != api.OK || code != api.OK || s.Freeze() != before {
					t.Errorf("May %d, Apply %d of %+v", may, code, other)
				}
				behind := m.copy()
				if behind.apply(other); twin.Freeze() != behind.freeze() {
					t.Errorf("Apply(%+v):\n%s\nnot\n%s", other, told(twin), behind.told())
				}
			} else {
				misfits(t, s, "turned", other)
			}
		}
		// Another mailbox may be dropped, or renamed to the last of Names; of the other kinds uids, flags, bodies, dates or names may be otherwise.
		few := map[int]int{api.EventMake: 0, api.EventDrop: 1, api.EventRename: 2, api.EventInbox: 0, api.EventUnsubscribe: 0}
		if n, is := few[kind]; is && fit != n || !is && fit == 0 {
			t.Errorf("kind %d: %d turned events may be", kind, fit)
		}
		if s.May(e) != api.OK || s.May(e) != api.OK || s.Apply(e) != api.OK || s.Last() != 11 {
			t.Errorf("%d: not applied: %+v", kind, e)
		}
		misfits(t, s, "twice", e)
	}
}

// P12.10: events of no kind, zero events, plans of another store.
func TestMisfits(t *testing.T) {
	s := rich(t)
	for _, kind := range []int{least, -1, 0, 12, 13, 255, 1 << 32, most} {
		misfits(t, s, "no kind", api.Event{Number: 11, Kind: kind, Box: 8, Names: []string{"x"}, Boxes: []int{11}})
		misfits(t, s, "no kind", api.Event{Kind: kind})
	}
	misfits(t, s, "zero", api.Event{})
	for kind := range 13 {
		misfits(t, s, "bare", api.Event{Number: 11, Kind: kind})
		misfits(t, s, "bare", api.Event{Number: 11, Kind: kind, Box: 8, To: 7, First: 4})
	}
	for _, e := range []api.Event{
		{Number: 11, Kind: api.EventMake, Names: []string{"inbox/x"}, Boxes: []int{11}}, {Number: 11, Kind: api.EventMake, Names: []string{"x/y"}, Boxes: []int{11}}, {Number: 11, Kind: api.EventMake, Names: []string{"y", "x"}, Boxes: []int{11, 12}},
		{Number: 11, Kind: api.EventMake, Names: []string{"a"}, Boxes: []int{11}}, {Number: 11, Kind: api.EventDrop, Box: 7}, {Number: 11, Kind: api.EventDrop, Box: 8}, {Number: 11, Kind: api.EventDrop, Box: 11},
		{Number: 11, Kind: api.EventRename, Box: 7, Names: []string{"x"}, Boxes: []int{11}}, {Number: 11, Kind: api.EventInbox, Box: 8, Names: []string{"x", "x/b"}, Boxes: []int{11, 12}},
		{Number: 11, Kind: api.EventRename, Box: 8, Names: []string{"x/b", "x"}, Boxes: []int{11, 12}}, {Number: 11, Kind: api.EventRename, Box: 8, Names: []string{"x"}, Boxes: []int{11}},
		{Number: 11, Kind: api.EventRename, Box: 10, Names: []string{"x", "x/b"}, Boxes: []int{12, 13}}, {Number: 11, Kind: api.EventExpunge, Box: 8, Uids: []int{4}}, {Number: 11, Kind: api.EventExpunge, Box: 8},
		{Number: 11, Kind: api.EventCopy, Box: 8, To: 7, First: 2}, {Number: 11, Kind: api.EventMove, Box: 8, To: 11, First: 1, Uids: []int{1}}, {Number: 11, Kind: api.EventSubscribe, Name: "a"},
		{Number: 11, Kind: api.EventSubscribe, Name: "inbox"}, {Number: 11, Kind: api.EventSubscribe, Name: "q"}, {Number: 11, Kind: api.EventUnsubscribe, Name: "c"},
		{Number: 11, Kind: api.EventAdd, Box: 8, First: 4, Marks: []api.Mark{{Uid: 4, Flags: []string{"WORK"}}}, Date: day}, {Number: 11, Kind: api.EventAdd, Box: 8, First: 4, Date: day},
	} {
		misfits(t, s, "forged", e)
	}
	// A rename of one with others below it, to the one of Names that is neither the first nor the last.
	e := api.Event{Number: 11, Kind: api.EventRename, Box: 8, Names: []string{"x", "x/y", "x/y/b"}, Boxes: []int{11, 12, 13}}
	if may, code := s.May(e), s.Apply(e); may != api.OK || code != api.OK {
		t.Errorf("Rename: %d, %d", may, code)
	}
	other := rich(t)
	done(t, other, drops("c"))
	misfits(t, other, "planned elsewhere", every()[api.EventAdd].of(rich(t)).e)
}

// P12.10: EventFlags with marks in every form.
func TestMayFlags(t *testing.T) {
	s := rich(t) // a (8) knows Work, zed: 1 Work, 2 none, 3 \Seen zed
	mark := func(uid int, flags ...string) api.Mark { return api.Mark{Uid: uid, Flags: flags} }
	event := func(marks ...api.Mark) api.Event {
		return api.Event{Number: 11, Kind: api.EventFlags, Box: 8, Marks: marks}
	}
	for why, e := range map[string]api.Event{
		"no marks": event(), "no such uid": event(mark(4, "k")), "uids that fall": event(mark(2, "k"), mark(1, "k")), "a uid twice": event(mark(1, "k"), mark(1, "l")), "uid 0": event(mark(0, "k")), "uid below 0": event(mark(-1, "k")),
		"like its own": event(mark(1, "Work")), "none, like its own": event(mark(2)), "one like its own": event(mark(1), mark(3, `\Seen`, "zed")), "known otherwise": event(mark(2, "WORK")), "known otherwise, its own": event(mark(1, "work")),
		"known, and forgotten by the event": event(mark(1, "x"), mark(2, "work")), "others unlike in case": event(mark(1, "new"), mark(2, "New")), "others unlike in case, apart": event(mark(1, "new"), mark(2, "k"), mark(3, "NEW")),
		"not in order": event(mark(1, "b", "a")), "system behind": event(mark(1, "a", `\Seen`)), "system not in order": event(mark(1, `\Seen`, `\Draft`)), "small system": event(mark(1, `\seen`)), "recent": event(mark(1, `\Recent`)),
		"a flag twice": event(mark(1, "a", "a")), "a flag twice in case": event(mark(1, "a", "A")), "no flag": event(mark(1, "a b")), "empty flag": event(mark(1, "")), "long flag": event(mark(1, strings.Repeat("k", 25))),
		"many keywords": event(mark(1, words(8)...)), "many keywords in all": event(mark(1, words(4)...), mark(2, "x", "y", "z", "zz")), "many flags": event(mark(1, words(17)...)),
		"too many marks": event(make([]api.Mark, 65)...), "no mailbox": {Number: 11, Kind: api.EventFlags, Box: 11, Marks: []api.Mark{mark(1)}}, "box 0": {Number: 11, Kind: api.EventFlags, Marks: []api.Mark{mark(1)}},
		"number ahead": {Number: 10, Kind: api.EventFlags, Box: 8, Marks: []api.Mark{mark(1)}}, "number behind": {Number: 12, Kind: api.EventFlags, Box: 8, Marks: []api.Mark{mark(1)}},
		"with a name": {Number: 11, Kind: api.EventFlags, Box: 8, Marks: []api.Mark{mark(1)}, Name: "a"}, "with uids": {Number: 11, Kind: api.EventFlags, Box: 8, Marks: []api.Mark{mark(1)}, Uids: []int{1}},
		"with First": {Number: 11, Kind: api.EventFlags, Box: 8, Marks: []api.Mark{mark(1)}, First: 1}, "with To": {Number: 11, Kind: api.EventFlags, Box: 8, Marks: []api.Mark{mark(1)}, To: 8},
		"with a date": {Number: 11, Kind: api.EventFlags, Box: 8, Marks: []api.Mark{mark(1)}, Date: day}, "with a body": {Number: 11, Kind: api.EventFlags, Box: 8, Marks: []api.Mark{mark(1)}, Body: "x"},
		"with names": {Number: 11, Kind: api.EventFlags, Box: 8, Marks: []api.Mark{mark(1)}, Names: []string{"x"}}, "with boxes": {Number: 11, Kind: api.EventFlags, Box: 8, Marks: []api.Mark{mark(1)}, Boxes: []int{11}},
	} {
		misfits(t, s, why, e)
	}
	for why, e := range map[string]api.Event{
		"one": event(mark(1)), "all, unlike": event(mark(1, "zed"), mark(2, `\Draft`, "Work"), mark(3)), "new alike": event(mark(1, "New"), mark(2, "New"), mark(3, "New", "Work")), "eight": event(mark(1, words(7)...)),
		"eight, since others are forgotten": event(mark(1, words(8)...), mark(3, words(8)...)), "empty lists": {Number: 11, Kind: api.EventFlags, Box: 8, Marks: []api.Mark{{Uid: 1, Flags: []string{}}}, Names: []string{}, Boxes: []int{}, Uids: []int{}},
	} {
		twin := s.Twin()
		if may, code := twin.May(e), twin.Apply(e); may != api.OK || code != api.OK {
			t.Errorf("%s: May %d, Apply %d", why, may, code)
		}
		mails, _ := twin.Mails(8)
		for _, m := range e.Marks {
			if got := mails[m.Uid-1]; !slices.Equal(got.Flags, m.Flags) || got.Modseq != 11 {
				t.Errorf("%s: %+v", why, got)
			}
		}
	}
	for range 62 {
		done(t, s, adds("INBOX", ""))
	}
	all := api.Event{Number: 73, Kind: api.EventFlags, Box: 7}
	for uid := range 63 {
		all.Marks = append(all.Marks, mark(uid+1, `\Deleted`))
	}
	if s.Apply(all) != api.OK {
		t.Error("63 marks")
	}
}

// P12.10: a nil list and an empty one are the same (W5), and what is handed in is not kept (W6).
func TestApplyKeepsNothing(t *testing.T) {
	for kind, a := range every() {
		s, other := rich(t), rich(t)
		e := a.of(s).e
		if e.Names == nil {
			e.Names = []string{}
		}
		for _, list := range []*[]int{&e.Boxes, &e.Uids} {
			if *list == nil {
				*list = []int{}
			}
		}
		if e.Marks == nil {
			e.Marks = []api.Mark{}
		}
		was := clone(e)
		if s.Apply(e) != api.OK || other.Apply(was) != api.OK || !same(e, was) {
			t.Fatalf("kind %d: %+v", kind, e)
		}
		spoil(reflect.ValueOf(&e))
		if got, want := told(s)+s.Freeze(), told(other)+other.Freeze(); got != want {
			t.Errorf("kind %d: what was handed in is kept:\n%s\nnot\n%s", kind, got, want)
		}
	}
}
