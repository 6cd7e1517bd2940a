package view_test

import (
	"slices"
	"testing"

	"postbag/api"
	"postbag/view"
)

// P16.4: uids of rows, of rows that have gone, of what is coming, of none.
func TestLook(t *testing.T) {
	v := view.New(api.BoxSight{Validity: here}, mails(2, 5, 9), 5)
	hears(v, false, expunges(here, 5), adds(here, 10))
	none := slices.Concat(edges[:6], edges[7:], list(3, 4, 6, 8, 10, 11))
	wantUids(t, "one has gone", v, 2, 5, 9)
	for _, uid := range none {
		if number, e := v.Seq(uid); number != 0 || e != api.ErrView {
			t.Errorf("Seq(%d): %d, %d", uid, number, e)
		}
	}
	wantSome(t, "gone", v.Gone, slices.Concat(none, list(2, 5, 9)), 5)
	wantSome(t, "recent", v.Recent, slices.Concat(none, list(2, 5, 9)), 5, 9)

	v.Take(api.WhenAll, 1)
	wantUids(t, "it was told", v, 2, 9, 10)
	if number, e := v.Seq(5); number != 0 || e != api.ErrView {
		t.Errorf("Seq(5): %d, %d", number, e)
	}
	wantSome(t, "gone", v.Gone, slices.Concat(none, list(2, 5, 9, 10)))
	wantSome(t, "recent", v.Recent, list(2, 5, 9, 10), 9, 10)
}

// P16.4: each of many rows is found, and nothing between them.
func TestLookAtMany(t *testing.T) {
	for count := range 70 {
		var uids []int
		for i := range count {
			uids = append(uids, 3*i+2)
		}
		v := viewOf(uids...)
		wantUids(t, words("%d rows", count), v, uids...)
		for uid := -2; uid < 3*count+5; uid++ {
			if number, e := v.Seq(uid); (e == api.OK) != slices.Contains(uids, uid) || e != api.OK && number != 0 {
				t.Errorf("%d rows: Seq(%d): %d, %d", count, uid, number, e)
			}
		}
	}
}

type sought struct {
	set  []api.Range
	uids []int
	gone bool
	e    api.Errno
}

func wantFound(t *testing.T, v *view.View, uid bool, cases ...sought) {
	t.Helper()
	for _, c := range cases {
		uids, gone, e := v.Find(c.set, uid)
		if !slices.Equal(uids, c.uids) || gone != c.gone || e != c.e {
			t.Errorf("Find(%v, %v): %v, %v, %d, not %v, %v, %d", c.set, uid, uids, gone, e, c.uids, c.gone, c.e)
		}
	}
}

func no(ends ...int) sought { return sought{set(ends...), nil, false, api.ErrView} }

// P16.5: by number.
func TestFindByNumber(t *testing.T) {
	v := viewOf(2, 5, 9)
	hears(v, false, expunges(here, 5), adds(here, 10))
	wantFound(t, v, false,
		sought{nil, nil, false, api.OK},
		sought{set(), nil, false, api.OK},
		sought{set(1, 3), list(2, 5, 9), true, api.OK},
		sought{set(3, 1), list(2, 5, 9), true, api.OK},
		sought{set(1, 1, 3, 3), list(2, 9), false, api.OK},
		sought{set(3, 3, 1, 1, 3, 3), list(2, 9), false, api.OK},
		sought{set(2, 2), list(5), true, api.OK},
		sought{set(2, 3), list(5, 9), true, api.OK},
		sought{set(3, 2, 2, 3, 1, 1), list(2, 5, 9), true, api.OK},
		sought{set(0, 0), list(9), false, api.OK},
		sought{set(0, 3), list(9), false, api.OK},
		sought{set(0, 2), list(5, 9), true, api.OK},
		sought{set(1, 0), list(2, 5, 9), true, api.OK},
		sought{set(0, 7), list(9), false, api.OK},
		sought{set(7, 0), list(9), false, api.OK},
		sought{set(4, 0), list(9), false, api.OK},
		sought{set(api.MaxNumber, 0), list(9), false, api.OK},
		sought{set(0, api.MaxNumber), list(9), false, api.OK},
		sought{set(0, 0, 1, 1), list(2, 9), false, api.OK},
		no(4, 4), no(3, 4), no(4, 3), no(1, 4), no(4, 1),
		no(1, api.MaxNumber), no(api.MaxNumber, 1), no(1, most), no(most, most), no(5, 5), no(9, 9),
		no(-1, -1), no(-1, 2), no(2, -1), no(least, 2), no(2, least), no(least, most), no(least, least),
		no(0, -1), no(-1, 0), no(0, least), no(least, 0),
		no(0, api.MaxNumber+1), no(api.MaxNumber+1, 0), no(0, most), no(most, 0),
		no(1, 1, 4, 4), no(4, 4, 1, 1), no(0, 0, 4, 4), no(4, 4, 0, 0), no(1, 3, 0, -1), no(0, most, 2, 2), no(1, 1, 2, 2, -3, 3),
	)
}

// P16.5: the star is the last row, gone or not, and what is gone is what was meant, nothing else.
func TestFindByNumberOfGone(t *testing.T) {
	v := viewOf(2, 5, 9)
	v.Hear(expunges(here, 9), false)
	wantFound(t, v, false,
		sought{set(0, 0), list(9), true, api.OK},
		sought{set(9, 0), list(9), true, api.OK},
		sought{set(1, 0), list(2, 5, 9), true, api.OK},
		sought{set(1, 2), list(2, 5), false, api.OK},
		sought{set(3, 3), list(9), true, api.OK},
		no(4, 4),
	)
	v.Hear(empties(here), false)
	wantFound(t, v, false,
		sought{nil, nil, false, api.OK},
		sought{set(1, 1), list(2), true, api.OK},
		sought{set(0, 0), list(9), true, api.OK},
		no(4, 4),
	)
	v.Take(api.WhenAll, 1)
	wantFound(t, v, false, sought{nil, nil, false, api.OK}, no(1, 1), no(0, 0))
}

// P16.5: by uid.
func TestFindByUid(t *testing.T) {
	v := viewOf(2, 5, 9)
	hears(v, false, expunges(here, 5), adds(here, 10))
	wantFound(t, v, true,
		sought{set(1, 0), list(2, 9), false, api.OK},
		sought{set(0, 1), list(2, 9), false, api.OK},
		sought{set(5, 5), nil, false, api.OK},
		sought{set(20, 0), list(9), false, api.OK},
		sought{set(0, 20), list(9), false, api.OK},
		sought{set(0, 0), list(9), false, api.OK},
		sought{set(10, 10), nil, false, api.OK},
		sought{set(10, 0), list(9), false, api.OK},
		sought{set(2, 5), list(2), false, api.OK},
		sought{set(9, 3), list(9), false, api.OK},
		sought{set(9, 9, 2, 2, 9, 9), list(2, 9), false, api.OK},
		sought{set(1, 1), nil, false, api.OK},
		sought{set(3, 8), nil, false, api.OK},
		sought{set(1, api.MaxNumber), list(2, 9), false, api.OK},
		sought{set(api.MaxNumber, 1), list(2, 9), false, api.OK},
		sought{set(api.MaxNumber, 0), list(9), false, api.OK},
		sought{nil, nil, false, api.OK},
		sought{set(), nil, false, api.OK},
		sought{set(-1, 9), nil, false, api.OK},
		sought{set(0, -1), nil, false, api.OK},
		sought{set(1, api.MaxNumber+1), nil, false, api.OK},
		sought{set(api.MaxNumber+1, 0), nil, false, api.OK},
		sought{set(least, most), nil, false, api.OK},
		sought{set(least, most, 2, 2), list(2), false, api.OK},
	)
}

// P16.5: by uid the star is the greatest uid that has not gone.
func TestFindByUidOfGone(t *testing.T) {
	v := viewOf(2, 5, 9)
	v.Hear(expunges(here, 9), false)
	wantFound(t, v, true,
		sought{set(0, 0), list(5), false, api.OK},
		sought{set(6, 0), list(5), false, api.OK},
		sought{set(9, 0), list(5), false, api.OK},
		sought{set(9, 9), nil, false, api.OK},
	)
	v.Hear(expunges(here, 2, 5), false)
	v.Hear(adds(here, 12), false)
	wantFound(t, v, true,
		sought{set(0, 0), nil, false, api.OK},
		sought{set(1, 0), nil, false, api.OK},
		sought{set(1, 99), nil, false, api.OK},
	)
	v.Take(api.WhenNumbers, 1)
	wantFound(t, v, true, sought{set(0, 0), list(12), false, api.OK}, sought{set(1, 0), list(12), false, api.OK})
}

// P16.5: uids at their greatest.
func TestFindAtTheEnd(t *testing.T) {
	v := viewOf(1, end-1, end)
	wantFound(t, v, true,
		sought{set(end, end), list(end), false, api.OK},
		sought{set(end-1, api.MaxNumber), list(end-1, end), false, api.OK},
		sought{set(api.MaxNumber, api.MaxNumber), nil, false, api.OK},
		sought{set(api.MaxNumber, 0), list(end), false, api.OK},
		sought{set(1, 1), list(1), false, api.OK},
		sought{set(0, 0), list(end), false, api.OK},
	)
	wantFound(t, v, false, sought{set(3, 3), list(end), false, api.OK}, sought{set(2, 0), list(end-1, end), false, api.OK}, no(end, end))
}

// P16.5, W1: long sets of many pieces, which no command could have, over many rows.
func TestFindLong(t *testing.T) {
	var uids []int
	var pieces []api.Range
	for n := 1; n <= 20000; n++ {
		uids = append(uids, 2*n)
		pieces = append(pieces, api.Range{From: n, To: n})
	}
	v := viewOf(uids...)
	wantLong := func(what string, byUid bool, count, last int) {
		t.Helper()
		got, gone, e := v.Find(pieces, byUid)
		if len(got) != count || got[count-1] != last || !slices.IsSorted(got) || gone || e != api.OK {
			t.Errorf("%s: %d uids, %v, %d", what, len(got), gone, e)
		}
	}
	wantLong("by number", false, 20000, 40000)
	wantLong("by uid", true, 10000, 20000)
	v.Hear(expunges(here, uids...), false)
	if told := v.Take(api.WhenAll, 1); len(told) != 20000 || told[19999].Num != 1 || told[19999].Uid != 40000 {
		t.Errorf("%d are told", len(told))
	}
}

// P16.6: a nil and a zero view in every call, though all kinds of events came.
func TestNothing(t *testing.T) {
	var zero view.View
	for what, v := range map[string]*view.View{"nil": nil, "zero": &zero, "new": new(view.View), "of an empty mailbox": viewOf()} {
		for _, own := range []bool{false, true} {
			if what == "of an empty mailbox" {
				break
			}
			for kind := -1; kind <= 12; kind++ {
				for _, box := range list(0, 1, here) {
					v.Hear(api.Event{Number: 3, Kind: kind, Box: box, To: box, First: 5, Uids: list(1, 2), Marks: []api.Mark{mark(1, "k")}}, own)
				}
			}
		}
		wantUids(t, what, v)
		wantSome(t, what, v.Gone, edges)
		wantSome(t, what, v.Recent, edges)
		for _, uid := range edges {
			if number, e := v.Seq(uid); number != 0 || e != api.ErrView {
				t.Errorf("%s: Seq(%d): %d, %d", what, uid, number, e)
			}
		}
		for _, when := range list(api.WhenNumbers, api.WhenAll, 0, 3, least, most) {
			wantTold(t, what, v.Take(when, least))
		}
		wantFound(t, v, false,
			sought{nil, nil, false, api.OK}, no(0, 0), no(1, 1), no(1, 0), no(0, 1), no(0, api.MaxNumber), no(-1, 0), no(0, most), no(least, most),
		)
		for _, ends := range [][]int{{}, {0, 0}, {1, 1}, {1, 0}, {0, api.MaxNumber}, {-1, 0}, {least, most}} {
			wantFound(t, v, true, sought{set(ends...), nil, false, api.OK})
		}
	}
}

// P16.1, P16.6: a view that New has made is no zero one, though its mailbox's validity is 0.
func TestNewOfZero(t *testing.T) {
	v := view.New(api.BoxSight{}, nil, 1)
	wantFound(t, v, false, no(0, 0))
	wantFound(t, v, true, sought{set(0, 0), nil, false, api.OK})
	v.Hear(adds(0, 1), false)
	wantTold(t, "the validity 0", v.Take(api.WhenAll, 1), exists(1), recent(1))
}
