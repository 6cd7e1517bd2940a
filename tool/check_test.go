package tool_test

import (
	"fmt"
	"math/rand/v2"
	"slices"
	"strings"
	"testing"

	"postbag/api"
	"postbag/store"
	"postbag/tool"
)

// stories are the store behind each beginning of the story, the frames of its events, and where each begins.
func stories(t *testing.T) (stores []*store.Store, list []string, places []int) {
	t.Helper()
	s := fresh(t)
	stores = append(stores, s.Twin())
	at := 0
	for _, p := range story() {
		f := joined(frames(t, done(t, s, p)...))
		stores, list, places = append(stores, s.Twin()), append(list, f), append(places, at)
		at += len(f)
	}
	return stores, list, append(places, at)
}

// P21.2: a store's own events: from each place on, with each store of the story as the checkpoint, with and without bytes behind them.
func TestCheckStory(t *testing.T) {
	stores, list, places := stories(t)
	for k, s := range stores {
		for from := range list {
			journal := joined(list[from:])
			var want []api.Finding
			for i := from; i < min(k, len(list)); i++ {
				want = append(want, old(places[i]-places[from]))
			}
			if from > k {
				want = []api.Finding{gap(0)}
			}
			what := fmt.Sprint("behind ", k, " events, from ", from, " on")
			wantCheck(t, what, s, journal, want...)
			if from <= k {
				want = append(want, rest(len(journal)))
			}
			wantCheck(t, what+" and bytes", s, journal+"\xb7\x01", want...)
		}
	}
}

// P21.2: a journal that is cut anywhere: what is told is what is left behind the last whole frame.
func TestCheckCut(t *testing.T) {
	stores, list, places := stories(t)
	journal := joined(list)
	for cut := range len(journal) + 1 {
		var want []api.Finding
		if whole, is := slices.BinarySearch(places, cut); !is {
			want = []api.Finding{rest(places[whole-1])}
		}
		wantCheck(t, fmt.Sprint("cut at ", cut), stores[0], journal[:cut], want...)
		for i := range 3 {
			if places[i] < cut && places[i+1] <= cut {
				want = slices.Insert(want, i, old(places[i]))
			}
		}
		wantCheck(t, fmt.Sprint("behind 3 events, cut at ", cut), stores[3], journal[:cut], want...)
	}
}

// P21.2: the examples, and bytes that begin with no frame.
func TestCheckNothing(t *testing.T) {
	for what, s := range map[string]*store.Store{"a new one": fresh(t), "a rich one": rich(t), "nil": nil, "a zero one": {}} {
		wantCheck(t, what, s, "")
		wantCheck(t, what, s, "abc", rest(0))
		wantCheck(t, what, s, strings.Repeat("\xb7\x01", 300000), rest(0))
	}
}

// P21.2: a frame in the story's midst that is not as it must be: it is told, and nothing behind it is.
func TestCheckWrong(t *testing.T) {
	stores, list, places := stories(t)
	for i := range list {
		n := i + 2
		add := func(number, box, first int) string {
			return bodyOf(t, api.Event{Number: number, Kind: api.EventAdd, Box: box, First: first, Marks: []api.Mark{{Uid: first}}, Date: day, Body: "x"})
		}
		own, _ := stores[i].Make("wrong")
		for _, c := range []struct {
			what string
			kind int
			body string
			want func(where int) api.Finding
		}{
			{"a store's frame", api.FrameStore, stores[i].Freeze(), unreadable},
			{"a store's frame with the next event", api.FrameStore, bodyOf(t, own), unreadable},
			{"no body", api.FrameEvent, "", unreadable},
			{"a body that is none", api.FrameEvent, bodyOf(t, own) + "x", unreadable},
			{"a body that is cut", api.FrameEvent, bodyOf(t, own)[1:], unreadable},
			{"a lesser number", api.FrameEvent, bodyOf(t, api.Event{Number: max(2, n-1), Kind: api.EventDrop, Box: 99}), unreadable},
			{"a greater number", api.FrameEvent, add(n+1, 7, 1), unreadable},
			{"no such mailbox", api.FrameEvent, add(n, 99, 1), misfit},
			{"no such uid", api.FrameEvent, bodyOf(t, api.Event{Number: n, Kind: api.EventExpunge, Box: 7, Uids: []int{77}}), misfit},
			{"another uid than the next one", api.FrameEvent, add(n, 7, 50), misfit},
			{"another validity than the next one", api.FrameEvent, bodyOf(t, api.Event{Number: n, Kind: api.EventMake, Names: []string{"q"}, Boxes: []int{6}}), misfit},
			{"not subscribed to", api.FrameEvent, bodyOf(t, api.Event{Number: n, Kind: api.EventUnsubscribe, Name: "q"}), misfit},
		} {
			if c.what == "a lesser number" && n == 2 {
				c.want = misfit // it is no lesser one
			}
			wrong := framed(t, c.kind, n, c.body)
			for _, behind := range []string{"", joined(list[i+1:]), "xyz", joined(list[i+1:]) + "xyz"} {
				what := fmt.Sprint(c.what, " in the place ", i, ", ", len(behind), " bytes behind it")
				wantCheck(t, what, stores[0], joined(list[:i])+wrong+behind, c.want(places[i]))
				wantCheck(t, what+", by itself", stores[i], wrong+behind, c.want(0))
				var olds []api.Finding
				for j := range i {
					olds = append(olds, old(places[j]))
				}
				wantCheck(t, what+", behind old ones", stores[i], joined(list[:i])+wrong+behind, append(olds, c.want(places[i]))...)
			}
		}
	}
}

// P21.2: of frames with old numbers nothing is looked at but the number; the one that follows is.
func TestCheckOld(t *testing.T) {
	s := begun(t, 7, 1, 10)
	fits := joined(frames(t, done(t, s.Twin(), makes("a"))...))
	for _, f := range []string{
		framed(t, api.FrameStore, 9, s.Freeze()), framed(t, api.FrameStore, 9, "x"), framed(t, api.FrameEvent, 9, ""), framed(t, api.FrameEvent, 9, "x"),
		framed(t, api.FrameEvent, 9, bodyOf(t, api.Event{Number: 9, Kind: api.EventDrop, Box: 99})), framed(t, api.FrameEvent, 9, bodyOf(t, api.Event{Number: 10, Kind: api.EventMake, Names: []string{"a"}, Boxes: []int{8}})),
	} {
		what := inShort(f)
		wantCheck(t, what, s, f, old(0))
		wantCheck(t, what, s, f+"x", old(0), rest(len(f)))
		wantCheck(t, what, s, f+fits, old(0))
		wantCheck(t, what, s, f+fits+"x", old(0), rest(len(f)+len(fits)))
		wantCheck(t, what, s, f+framed(t, api.FrameStore, 10, ""), old(0), unreadable(len(f)))
		wantCheck(t, what, s, framed(t, api.FrameEvent, 8, "")+f+fits, old(0), old(18))
	}
	for _, n := range []int{1, 2, 8, 9} {
		wantCheck(t, "one old one", s, framed(t, api.FrameEvent, n, "ab"), old(0))
	}
}

// P21.2: a number above the next one is a gap, whatever the frame is; it ends there.
func TestCheckGap(t *testing.T) {
	s := begun(t, 7, 1, 10)
	for _, n := range []int{11, 12, 1000, end} {
		for _, f := range []string{framed(t, api.FrameStore, n, s.Freeze()), framed(t, api.FrameEvent, n, ""), framed(t, api.FrameEvent, n, bodyOf(t, api.Event{Number: n, Kind: api.EventMake, Names: []string{"a"}, Boxes: []int{8}}))} {
			wantCheck(t, fmt.Sprint("the number ", n), s, f, gap(0))
			wantCheck(t, fmt.Sprint("the number ", n), s, f+"x", gap(0))
			if n < end {
				wantCheck(t, fmt.Sprint("the number ", n), s, f+framed(t, api.FrameEvent, n+1, ""), gap(0))
			}
		}
	}
}

// P21.2: a nil and a zero store: the first number is 1, of which there is no event.
func TestCheckNil(t *testing.T) {
	_, list, _ := stories(t)
	for what, s := range map[string]*store.Store{"nil": nil, "a zero one": {}} {
		wantCheck(t, what, s, joined(list), gap(0))
		wantCheck(t, what, s, joined(list)+"x", gap(0))
		wantCheck(t, what, s, joined(list[1:]), gap(0))
		for _, f := range []string{framed(t, api.FrameEvent, 1, ""), framed(t, api.FrameStore, 1, fresh(t).Freeze()), framed(t, api.FrameEvent, 1, "\x02\x01\x08"), framed(t, api.FrameEvent, 1, "\x02\x02\x08")} {
			wantCheck(t, what, s, f, unreadable(0))
			wantCheck(t, what, s, f+joined(list)+"x", unreadable(0))
		}
	}
}

// P21.2: at the counter's end every number is an old one.
func TestCheckEnd(t *testing.T) {
	s := begun(t, 7, 1, end)
	last := joined(frames(t, done(t, s.Twin(), makes("a"))...))
	wantCheck(t, "the last event", s, last)
	wantCheck(t, "the last event, and bytes", s, last+"x", rest(len(last)))
	wantCheck(t, "another last one", s, framed(t, api.FrameEvent, end, "x"), unreadable(0))
	done(t, s, makes("a"))
	wantCheck(t, "behind the last event", s, last, old(0))
	wantCheck(t, "behind the last event, and bytes", s, last+last, old(0), rest(len(last)))
}

// somePlan is a plan for a store, as a rule one that it takes.
func somePlan(r *rand.Rand, s *store.Store) plan {
	boxes := s.Boxes()
	b, other := boxes[r.IntN(len(boxes))], boxes[r.IntN(len(boxes))]
	var uids []int
	mails, _ := s.Mails(b.Validity)
	for _, m := range mails {
		if r.IntN(2) == 0 {
			uids = append(uids, m.Uid)
		}
	}
	name := oneOf(r, "a", "b", "a/b", "a/b/c", "A", "é", "INBOX/x", "\"", "c d")
	switch r.IntN(14) {
	case 0, 1:
		return makes(name)
	case 2:
		return drops(b.Name)
	case 3:
		return renames(b.Name, name)
	case 4:
		return turns(b.Validity, oneOf(r, 0, 1, -1), uids, someFlags(r)...)
	case 5:
		return expunges(b.Validity, uids...)
	case 6:
		return copies(b.Validity, other.Name, uids...)
	case 7:
		return moves(b.Validity, other.Name, uids...)
	case 8:
		return subscribes(b.Name)
	case 9:
		return unsubscribes(name)
	}
	return addsOn(anyDate(r), b.Name, anyText(r), someFlags(r)...)
}

// goOn applies some plans that a store takes.
func goOn(r *rand.Rand, s *store.Store, count int) []api.Event {
	var out []api.Event
	for len(out) < count {
		e, code := somePlan(r, s)(s)
		if code == api.OK && s.Apply(e) == api.OK {
			out = append(out, e)
		}
	}
	return out
}

// P21.2: random journals, of a store's events as a rule, against a Check of another make.
func TestCheckRandom(t *testing.T) {
	r := rand.New(rand.NewPCG(21, 2))
	kinds := map[int]int{}
	for range 1500 {
		s := begun(t, 7, oneOf(r, 1, 50), oneOf(r, 2, 9, 4000000000))
		goOn(r, s, r.IntN(5))
		checkpoint := s.Twin()
		events := append(goOn(r, s, r.IntN(8)), goOn(r, checkpoint, r.IntN(3))...) // the checkpoint goes its own way, or not at all
		slices.SortStableFunc(events, func(a, b api.Event) int { return a.Number - b.Number })
		events = slices.CompactFunc(events, func(a, b api.Event) bool { return a.Number == b.Number })
		var rows []row
		journal := ""
		for _, e := range events {
			x := row{api.FrameEvent, e.Number, bodyOf(t, e), &e}
			if r.IntN(12) == 0 {
				x = anyRow(t, r, e.Number)
			}
			rows = append(rows, x)
			journal += framed(t, x.kind, x.number, x.body)
		}
		behind := oneOf(r, "", "", "", "x", "\xb7\x01")
		if r.IntN(10) == 0 {
			checkpoint = begun(t, 7, 1, oneOf(r, 2, max(2, checkpoint.Last())))
		}
		want := slowCheck(t, checkpoint, rows, len(behind))
		wantCheck(t, "a random one", checkpoint, journal+behind, want...)
		for _, f := range want {
			kinds[f.Kind]++
		}
		if len(want) == 0 {
			kinds[0]++
		}
	}
	for kind := range 6 {
		if kinds[kind] < 20 {
			t.Errorf("of the kind %d there were %d findings alone", kind, kinds[kind])
		}
	}
}

// P21.2: what Check takes without a word brings a store to where the events bring it.
func TestCheckIsFold(t *testing.T) {
	r := rand.New(rand.NewPCG(21, 3))
	for range 100 {
		s := fresh(t)
		events := goOn(r, s, 30)
		journal := joined(frames(t, events...))
		wantCheck(t, "whole", fresh(t), journal)
		for range 20 {
			i, other := r.IntN(len(events)), r.IntN(len(events))
			changed := slices.Clone(events)
			changed[i] = events[other]
			changed[i].Number = events[i].Number
			var want []api.Finding
			own, at := fresh(t), 0
			for _, e := range changed {
				if own.Apply(e) != api.OK {
					want = []api.Finding{misfit(at)}
					break
				}
				at += len(joined(frames(t, e)))
			}
			wantCheck(t, "with an event in another's place", fresh(t), joined(frames(t, changed...)), want...)
		}
	}
	if got := tool.Check(fresh(t), ""); len(got) != 0 {
		t.Errorf("P21.2: %v", got)
	}
}
