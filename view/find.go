package view

import (
	"slices"

	"postbag/api"
	"postbag/span"
)

const star = 0

// Find is what a set means: the uids, rising; and whether one of them has gone, or a number is none.
func (v *View) Find(set []api.Range, uid bool) ([]int, bool, api.Errno) {
	v = v.some()
	if uid {
		there := v.uids(func(r row) bool { return !r.gone })
		return span.Of(set, there), false, api.OK
	}
	if slices.ContainsFunc(set, func(piece api.Range) bool { return !v.takes(piece) }) {
		return nil, false, api.ErrView
	}
	uids, gone := v.numbered(set)
	return uids, gone, api.OK
}

// takes tells whether a piece may stand in a set by number.
func (v *View) takes(piece api.Range) bool {
	low, high := min(piece.From, piece.To), max(piece.From, piece.To)
	switch {
	case low < star:
		return false
	case low == star:
		return high <= api.MaxNumber && len(v.rows) > 0
	}
	return high <= len(v.rows)
}

// numbered are the uids of the rows whose numbers are in a set, and whether one of them has gone.
func (v *View) numbered(set []api.Range) ([]int, bool) {
	var uids []int
	gone := false
	for _, number := range span.Of(set, following(1, len(v.rows))) {
		r := v.rows[number-1]
		uids = append(uids, r.uid)
		gone = gone || r.gone
	}
	return uids, gone
}
