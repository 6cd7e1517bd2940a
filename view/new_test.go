package view_test

import (
	"slices"
	"testing"

	"postbag/api"
	"postbag/view"
)

// P16.1: which mails are rows.
func TestNewRows(t *testing.T) {
	for _, c := range []struct{ given, want []int }{
		{nil, nil},
		{list(), nil},
		{list(2, 5, 9), list(2, 5, 9)},
		{list(1), list(1)},
		{list(0), nil},
		{list(-1), nil},
		{list(least), nil},
		{list(end-1, end), list(end-1, end)},
		{list(end), list(end)},
		{list(api.MaxNumber), nil},
		{list(api.MaxNumber + 1), nil},
		{list(most), nil},
		{list(end, api.MaxNumber, most), list(end)},
		{list(most, api.MaxNumber, 3), list(3)},
		{list(3, 3, 4, 4, 4), list(3, 4)},
		{list(3, 2, 0, 5, api.MaxNumber), list(3, 5)},
		{list(9, 5, 6, 7, 10), list(9, 10)},
		{list(least, -1, 0, 1, 2), list(1, 2)},
		{list(5, 0, 4, -3, 5, 6, most, 7), list(5, 6, 7)},
	} {
		v := view.New(api.BoxSight{Validity: here}, mails(c.given...), 1)
		what := words("mails %v", c.given)
		wantUids(t, what, v, c.want...)
		wantSome(t, what+", gone", v.Gone, slices.Concat(c.given, edges))
		wantSome(t, what+", recent", v.Recent, slices.Concat(c.given, edges), c.want...)
		wantTold(t, what, v.Take(api.WhenAll, 1))
		wantUids(t, what, v, c.want...)
	}
}

// P16.1: a row's uid alone says whether it is recent.
func TestNewRecent(t *testing.T) {
	uids := list(1, 2, 5, 9, end-1, end)
	for _, from := range slices.Concat(edges, uids, list(3, 6, 10)) {
		v := view.New(api.BoxSight{Validity: here}, mails(uids...), from)
		var want []int
		for _, uid := range uids {
			if uid >= from {
				want = append(want, uid)
			}
		}
		wantSome(t, words("recent from %d on", from), v.Recent, slices.Concat(uids, edges, list(3, 6, 10)), want...)
	}
}

// P16.1: a mail's number, modseq, flags and Recent, and all of the mailbox but its validity, say nothing.
func TestNewLooksAtUids(t *testing.T) {
	given := []api.Mail{
		{Seq: 9, Uid: 2, Modseq: 99, Flags: []string{`\Seen`}, Recent: true, Raw: "x"},
		{Seq: -4, Uid: 5, Recent: true},
	}
	box := api.BoxSight{Name: "INBOX", Validity: here, Next: 3, Highest: 1, Count: 77, Unseen: 5, Keywords: []string{"k"}}
	v := view.New(box, given, 5)
	wantUids(t, "mails with more than uids", v, 2, 5)
	wantSome(t, "recent", v.Recent, list(2, 5), 5)
	wantTold(t, "at first", v.Take(api.WhenAll, 1))
	v.Hear(adds(here, 6), false)
	wantTold(t, "behind an Add", v.Take(api.WhenAll, 7), exists(3), recent(1))
}

// P16.1, P16.2: any number is a validity.
func TestNewValidity(t *testing.T) {
	for _, validity := range edges {
		for _, heard := range edges {
			v := view.New(api.BoxSight{Validity: validity}, mails(3), most)
			hears(v, false, adds(heard, 4), copies(there, heard, 5, 1, 2), expunges(heard, 3))
			if validity == heard {
				wantTold(t, words("the validity %d", validity), v.Take(api.WhenAll, most), gone(1, 3), exists(3), recent(0))
				wantUids(t, words("the validity %d", validity), v, 4, 5, 6)
				continue
			}
			wantTold(t, words("the validity %d hears of %d", validity, heard), v.Take(api.WhenAll, most))
			wantUids(t, words("the validity %d hears of %d", validity, heard), v, 3)
		}
	}
}

// P16.1: two views know nothing of each other.
func TestNewTwo(t *testing.T) {
	given := mails(2, 5)
	one := view.New(api.BoxSight{Validity: here}, given, most)
	two := view.New(api.BoxSight{Validity: here}, given, most)
	hears(one, false, expunges(here, 2), adds(here, 6), turns(here, 9, mark(5, "k")))
	wantTold(t, "the other one", two.Take(api.WhenAll, 1))
	wantTold(t, "the one", one.Take(api.WhenAll, 1), gone(1, 2), exists(2), recent(1), flags(1, 5, 9, "k"))
	wantUids(t, "the other one", two, 2, 5)
}
