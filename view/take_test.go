package view_test

import (
	"slices"
	"testing"

	"postbag/api"
	"postbag/view"
)

// busy is a view of which rows have gone, uids are coming and flags wait.
func busy() *view.View {
	v := view.New(api.BoxSight{Validity: here}, mails(2, 5, 9, 14), 9)
	hears(v, false, expunges(here, 5, 9), turns(here, 6, mark(2, "a"), mark(14, "b", "c")), adds(here, 15), adds(here, 17))
	return v
}

// P16.3: a when that is neither tells nothing, and holds nothing for told.
func TestTakeAtNoTime(t *testing.T) {
	for _, when := range slices.Concat(edges[:5], edges[7:], list(3, 4, 1<<32+1, 1<<32+2)) {
		v := busy()
		wantTold(t, words("when %d", when), v.Take(when, 1))
		wantUids(t, words("when %d", when), v, 2, 5, 9, 14)
		wantSome(t, words("when %d", when), v.Gone, list(2, 5, 9, 14, 15, 17), 5, 9)
		wantTold(t, words("behind when %d", when), v.Take(api.WhenAll, 17),
			gone(2, 5), gone(2, 9), exists(4), recent(2), flags(1, 2, 6, "a"), flags(2, 14, 6, "b", "c"))
	}
}

// P16.3: the order of what is told, with rows that go or without.
func TestTakeOrder(t *testing.T) {
	v := busy()
	wantTold(t, "all", v.Take(api.WhenAll, 16), gone(2, 5), gone(2, 9), exists(4), recent(2), flags(1, 2, 6, "a"), flags(2, 14, 6, "b", "c"))
	wantUids(t, "all", v, 2, 14, 15, 17)
	wantSome(t, "recent behind all", v.Recent, list(2, 5, 9, 14, 15, 17), 14, 17)
	wantTold(t, "all again", v.Take(api.WhenAll, 1))
	wantTold(t, "numbers behind all", v.Take(api.WhenNumbers, 1))

	v = busy()
	wantTold(t, "numbers", v.Take(api.WhenNumbers, 16), exists(6), recent(3), flags(1, 2, 6, "a"), flags(4, 14, 6, "b", "c"))
	wantUids(t, "numbers", v, 2, 5, 9, 14, 15, 17)
	wantSome(t, "gone behind numbers", v.Gone, list(2, 5, 9, 14, 15, 17), 5, 9)
	wantSome(t, "recent behind numbers", v.Recent, list(2, 5, 9, 14, 15, 17), 9, 14, 17)
	wantTold(t, "numbers again", v.Take(api.WhenNumbers, 1))
	wantTold(t, "all behind numbers", v.Take(api.WhenAll, 1), gone(2, 5), gone(2, 9))
	wantUids(t, "all behind numbers", v, 2, 14, 15, 17)
}

// P16.3: the numbers of rows that go, one behind the other, whatever the order in which they went.
func TestTakeNumbersOfGone(t *testing.T) {
	uids := list(3, 4, 7, 8, 12, 20)
	for pattern := range 1 << len(uids) {
		var goes, left []int
		var want []api.Told
		for i, uid := range uids {
			if pattern>>i&1 == 0 {
				left = append(left, uid)
				continue
			}
			goes = append(goes, uid)
			want = append(want, gone(len(left)+1, uid))
		}
		falling := slices.Clone(goes)
		slices.Reverse(falling)
		one, single := viewOf(uids...), viewOf(uids...)
		one.Hear(expunges(here, goes...), false)
		for _, uid := range falling {
			single.Hear(expunges(here, uid), true)
		}
		for what, v := range map[string]*view.View{"at once": one, "one by one": single} {
			what = words("%v go %s", goes, what)
			wantTold(t, what+", numbers", v.Take(api.WhenNumbers, 1))
			wantUids(t, what+", numbers", v, uids...)
			wantTold(t, what, v.Take(api.WhenAll, 1), want...)
			wantUids(t, what, v, left...)
			wantSome(t, what, v.Gone, uids)
		}
	}
}

// P16.3: what is new is recent from a uid on, and recent ones are counted over all rows, gone or not.
func TestTakeRecent(t *testing.T) {
	for _, from := range slices.Concat(edges, list(5, 10, 11, 12, 13, 14)) {
		v := view.New(api.BoxSight{Validity: here}, mails(2, 5, 9), 5)
		hears(v, false, expunges(here, 9), adds(here, 11), adds(here, 13))
		var fresh []int
		for _, uid := range list(11, 13) {
			if uid >= from {
				fresh = append(fresh, uid)
			}
		}
		what := words("recent from %d on", from)
		wantSome(t, what+", coming", v.Recent, list(2, 5, 9, 11, 13), 5, 9)
		wantTold(t, what, v.Take(api.WhenNumbers, from), exists(5), recent(2+len(fresh)))
		wantSome(t, what, v.Recent, list(2, 5, 9, 11, 13), append(list(5, 9), fresh...)...)
		wantTold(t, what+", all", v.Take(api.WhenAll, 1), gone(3, 9))
		wantSome(t, what+", all", v.Recent, list(2, 5, 9, 11, 13), append(list(5), fresh...)...)
		hears(v, false, adds(here, 15))
		wantTold(t, what+", one more", v.Take(api.WhenAll, most), exists(5), recent(1+len(fresh)))
	}
}

// P16.3: without a uid that is coming neither EXISTS nor RECENT is told, and recent says nothing.
func TestTakeWithoutNew(t *testing.T) {
	v := viewOf(2, 5)
	hears(v, false, turns(here, 4, mark(2, "a")))
	wantTold(t, "flags", v.Take(api.WhenAll, 1), flags(1, 2, 4, "a"))
	hears(v, false, expunges(here, 2))
	wantTold(t, "gone", v.Take(api.WhenAll, 1), gone(1, 2))
	wantSome(t, "recent", v.Recent, list(2, 5))
}

// P16.3: flags are told by the number that the row has then.
func TestTakeFlagsOfChangedNumbers(t *testing.T) {
	heard := []api.Event{turns(here, 6, mark(2, "a"), mark(5, "b"), mark(9, "c"), mark(14, "d")), expunges(here, 2, 9), adds(here, 20)}
	v := viewOf(2, 5, 9, 14)
	hears(v, false, heard...)
	wantTold(t, "all", v.Take(api.WhenAll, most), gone(1, 2), gone(2, 9), exists(3), recent(0), flags(1, 5, 6, "b"), flags(2, 14, 6, "d"))

	v = viewOf(2, 5, 9, 14)
	hears(v, false, heard...)
	wantTold(t, "numbers", v.Take(api.WhenNumbers, most), exists(5), recent(0), flags(2, 5, 6, "b"), flags(4, 14, 6, "d"))
	hears(v, false, turns(here, 8, mark(14, "e"), mark(20, "f"), mark(9, "g")))
	wantTold(t, "behind that", v.Take(api.WhenAll, most), gone(1, 2), gone(2, 9), flags(2, 14, 8, "e"), flags(3, 20, 8, "f"))
}

// P16.9: a second Take right behind one tells nothing; behind WhenAll nothing has gone, waits or is coming.
func TestTakeAgain(t *testing.T) {
	for _, when := range list(api.WhenNumbers, api.WhenAll) {
		v := busy()
		if len(v.Take(when, 1)) == 0 {
			t.Errorf("when %d: nothing is told", when)
		}
		for range 3 {
			wantTold(t, words("when %d", when), v.Take(when, 1))
		}
	}
}

// P16.11: what came and went between two Takes is never told of.
func TestTakeOfWhatCameAndWent(t *testing.T) {
	v := viewOf(2, 5)
	hears(v, false, adds(here, 10), adds(here, 11), turns(here, 4, mark(10, "a"), mark(11, "b")), expunges(here, 10))
	wantTold(t, "one of two", v.Take(api.WhenNumbers, 1), exists(3), recent(1))
	wantUids(t, "one of two", v, 2, 5, 11)
	hears(v, false, adds(here, 12), moves(here, there, 3, 12))
	wantTold(t, "moved", v.Take(api.WhenAll, 1))
	hears(v, false, copies(there, here, 13, 1, 2, 3), expunges(here, 13, 14, 15))
	wantTold(t, "copied", v.Take(api.WhenAll, 1))
	hears(v, false, adds(here, 16), empties(here))
	wantTold(t, "emptied", v.Take(api.WhenNumbers, 1))
	wantTold(t, "emptied", v.Take(api.WhenAll, 1), gone(1, 2), gone(1, 5), gone(1, 11))
}
