package span_test

import (
	"fmt"
	"math"
	"math/big"
	"math/rand/v2"
	"slices"
	"testing"

	"postbag/api"
	"postbag/span"
)

// handed is a list that is handed in, with spare room behind its end, and both as they were.
type handed[E comparable] struct {
	list, before []E
}

func withSpare[E comparable](l []E) handed[E] {
	full := slices.Concat(l, l, make([]E, 3))
	return handed[E]{full[:len(l)], slices.Clone(full)}
}

func (h handed[E]) isChanged() bool { return !slices.Equal(h.list[:len(h.before)], h.before) }

// overwrite writes upon all of an answer, its spare room too.
func overwrite[E any](l []E) { clear(l[:cap(l)]) }

// wantHas reckons without wrap-round: a number lies between two ends, if its distances from them are not of one sign.
func wantHas(l []api.Range, n, greatest int) bool {
	if greatest < 1 || n < 1 {
		return false
	}
	distance := func(end int) *big.Int {
		if end == 0 {
			end = greatest
		}
		return new(big.Int).Sub(big.NewInt(int64(n)), big.NewInt(int64(end)))
	}
	has := false
	for _, p := range l {
		is := p.From >= 0 && p.To >= 0 && p.From <= most && p.To <= most
		has = has || is && distance(p.From).Sign()*distance(p.To).Sign() <= 0
	}
	return has
}

func lookAtHas(t *testing.T, l []api.Range, n, greatest int) {
	t.Helper()
	if got, want := span.Has(l, n, greatest), wantHas(l, n, greatest); got != want {
		t.Errorf("Has(%.90s, %d, %d): %v, not %v", fmt.Sprint(l), n, greatest, got, want)
	}
}

// tellHas holds just which of the numbers from -3 to 12 are in a set.
func tellHas(t *testing.T, l []api.Range, greatest int, want ...int) {
	t.Helper()
	handed := withSpare(l)
	var got []int
	for n := -3; n <= 12; n++ {
		if span.Has(handed.list, n, greatest) {
			got = append(got, n)
		}
		lookAtHas(t, l, n, greatest)
	}
	if !slices.Equal(got, want) || handed.isChanged() {
		t.Errorf("Has(%v, n, %d): %v, not %v; the set is %v", l, greatest, got, want, handed.list)
	}
}

// P4.3
func TestHas(t *testing.T) {
	tellHas(t, nil, 5)
	tellHas(t, set(5, 0), 3, 3, 4, 5)
	tellHas(t, set(0, 5), 3, 3, 4, 5)
	tellHas(t, set(5, 0), 5, 5)
	tellHas(t, set(5, 0), 8, 5, 6, 7, 8)
	tellHas(t, set(0, 5), 8, 5, 6, 7, 8)
	tellHas(t, set(0, 0), 1, 1)
	tellHas(t, set(0, 0), 7, 7)
	tellHas(t, set(0, 0), 99)
	tellHas(t, set(4, 2), 1, 2, 3, 4)
	tellHas(t, set(2, 4), 1, 2, 3, 4)
	tellHas(t, set(2, 4), 99, 2, 3, 4)
	tellHas(t, set(6, 6), 2, 6)
	tellHas(t, set(1, 0), 1, 1)
	tellHas(t, set(1, most), 1, 1, 2, 3, 4, 5, 6, 7, 8, 9, 10, 11, 12)
	tellHas(t, set(9, 10, 3, 1, 0, 0), 6, 1, 2, 3, 6, 9, 10)
	tellHas(t, set(3, 5, 4, 7), 1, 3, 4, 5, 6, 7)
}

// P4.3: without a greatest there is nothing, not even of pieces without a star.
func TestHasWithoutGreatest(t *testing.T) {
	for _, greatest := range []int{0, -1, -7, -most, math.MinInt} {
		for _, l := range [][]api.Range{nil, set(0, 0), set(1, 9), set(9, 1), set(5, 0), set(0, 5), set(1, 1, 2, 2, 0, 0), set(1, most)} {
			tellHas(t, l, greatest)
		}
	}
}

// P4.3: a piece with an end that cannot be has nothing, and takes nothing from those beside it.
func TestHasOfWrongPieces(t *testing.T) {
	for _, wrong := range []int{-1, -5, math.MinInt, most + 1, math.MaxInt} {
		for _, l := range [][]api.Range{set(wrong, 9), set(9, wrong), set(wrong, wrong), set(wrong, 0), set(0, wrong), set(1, wrong), set(wrong, 1), set(wrong, most)} {
			tellHas(t, l, 5)
			tellHas(t, append(l, set(3, 4)...), 5, 3, 4)
			tellHas(t, append(set(3, 0), l...), 5, 3, 4, 5)
			for _, n := range []int{wrong, most, most + 1, math.MaxInt, 1} {
				lookAtHas(t, l, n, 5)
				lookAtHas(t, l, n, most)
				lookAtHas(t, l, n, math.MaxInt)
			}
		}
	}
}

// P4.3, W1: all pieces of numbers at the bounds, and in pairs.
func TestHasAtTheBounds(t *testing.T) {
	numbers := []int{math.MinInt, math.MinInt + 1, -most - 1, -most, -2, -1, 0, 1, 2, 3, most - 1, most, most + 1, most + 2, math.MaxInt - 1, math.MaxInt}
	for _, greatest := range numbers {
		for _, from := range numbers {
			for _, to := range numbers {
				for _, n := range numbers {
					lookAtHas(t, set(from, to), n, greatest)
				}
			}
		}
	}
	if !span.Has(set(5, 0), math.MaxInt, math.MaxInt) || !span.Has(set(0, 0), most+1, most+1) || span.Has(set(1, most), most+1, most+1) {
		t.Error("the star above MaxNumber")
	}
}

func randomSet(r *rand.Rand, size, bound int) []api.Range {
	l := make([]api.Range, r.IntN(size+1))
	for i := range l {
		l[i] = api.Range{From: r.IntN(bound + 1), To: r.IntN(bound + 1)}
		switch r.IntN(8) {
		case 0:
			l[i].From = 0
		case 1:
			l[i].To = 0
		case 2:
			l[i].To = l[i].From
		}
		if r.IntN(12) == 0 {
			l[i].To = []int{-1, most + 1, math.MinInt, math.MaxInt}[r.IntN(4)]
		}
	}
	return l
}

// P4.3
func TestHasOfManySets(t *testing.T) {
	r := rand.New(rand.NewPCG(4, 3))
	for range 3000 {
		l := randomSet(r, 5, 14)
		for greatest := -1; greatest <= 15; greatest++ {
			for n := -1; n <= 16; n++ {
				lookAtHas(t, l, n, greatest)
			}
		}
	}
}

func wantOf(l []api.Range, list []int) []int {
	var out []int
	for _, n := range list {
		if wantHas(l, n, list[len(list)-1]) {
			out = append(out, n)
		}
	}
	return out
}

// lookAtOf holds an answer against the set's numbers one by one, what was handed in against what it was, and writes upon the answer: P4.4, P4.7.
func lookAtOf(t *testing.T, l []api.Range, list []int) {
	t.Helper()
	handedSet, handedList := withSpare(l), withSpare(list)
	want := wantOf(l, list)
	for range 2 {
		got := span.Of(handedSet.list, handedList.list)
		if !slices.Equal(got, want) {
			t.Errorf("Of(%.90s, %.90s): %v, not %v", fmt.Sprint(l), fmt.Sprint(list), got, want)
		}
		overwrite(got)
		if handedSet.isChanged() || handedList.isChanged() {
			t.Errorf("Of(%v, %v): these are %v, %v now", l, list, handedSet.list, handedList.list)
		}
	}
}

// P4.4
func TestOf(t *testing.T) {
	list := func(l ...int) []int { return l }
	for _, c := range []struct {
		set        []api.Range
		list, want []int
	}{
		{set(2, 0), list(1, 3, 5, 9), list(3, 5, 9)},
		{set(20, 0), list(1, 3, 5, 9), list(9)},
		{set(0, 0), list(1, 3, 5, 9), list(9)},
		{set(0, 0), nil, nil},
		{set(0, 0), list(), nil},
		{set(1, 9), nil, nil},
		{nil, list(1, 2), nil},
		{set(1, 9), list(1, 3, 5, 9), list(1, 3, 5, 9)},
		{set(1, most), list(1, 3, 5, 0), nil},
		{set(1, most), list(1, 3, 5, -1), nil},
		{set(1, most), list(1, 3, 5, math.MinInt), nil},
		{set(1, most), list(0), nil},
		{set(1, most), list(0, -1, math.MinInt, 7), list(7)},
		{set(1, 3), list(2, 2, 4, 2, 3, 3), list(2, 2, 2, 3, 3)},
		{set(1, 3, 2, 4), list(2, 2, 4, 3), list(2, 2, 4, 3)},
		{set(4, 0), list(9, 3, 5, 1, 2), list(3, 2)},
		{set(0, 0), list(5, 9, 5), list(5, 5)},
		{set(0, 7), list(9, 7, 5, 6, 8, 5), list(7, 5, 6, 5)},
		{set(5, 2), list(1, 2, 3, 4, 5, 6), list(2, 3, 4, 5)},
		{set(-1, 9, 3, 3), list(1, 2, 3, 4), list(3)},
		{set(most+1, 1, 0, -1), list(1, 2, 3, 4), nil},
		{set(1, 0), list(most, most+1, math.MaxInt), list(most, most+1, math.MaxInt)},
		{set(1, most), list(most-1, most, most+1), list(most-1, most)},
	} {
		if got := span.Of(c.set, c.list); !slices.Equal(got, c.want) {
			t.Errorf("Of(%v, %v): %v, not %v", c.set, c.list, got, c.want)
		}
		lookAtOf(t, c.set, c.list)
	}
}

// P4.4: rising lists, and others.
func TestOfManyLists(t *testing.T) {
	r := rand.New(rand.NewPCG(4, 4))
	for i := range 20000 {
		list := make([]int, r.IntN(12))
		for i := range list {
			list[i] = r.IntN(20) - 2
		}
		if i%2 == 0 {
			slices.Sort(list)
		}
		if r.IntN(20) == 0 && len(list) > 0 {
			list[r.IntN(len(list))] = []int{math.MaxInt, math.MinInt, most, most + 1}[r.IntN(4)]
		}
		lookAtOf(t, randomSet(r, 6, 18), list)
	}
}

// P4.4, P4.7: the star at the end of int, beside pieces that touch it.
func TestOfAtTheBounds(t *testing.T) {
	numbers := []int{math.MinInt, -1, 0, 1, 2, most - 1, most, most + 1, math.MaxInt - 1, math.MaxInt}
	for _, from := range numbers {
		for _, to := range numbers {
			for _, last := range numbers {
				list := append(slices.Clone(numbers), last)
				lookAtOf(t, set(from, to), list)
				lookAtOf(t, set(from, to, 0, 0), list)
				lookAtOf(t, set(from, to, most-1, most, 1, 0), list)
			}
		}
	}
}

// P4.7
func TestHasAndOfLongLists(t *testing.T) {
	const size = 300000
	var l []api.Range
	var list, want []int
	for i := range size {
		l = append(l, api.Range{From: 10*(size-i) + 3, To: 10*(size-i) + 1}, api.Range{From: -i - 1, To: 9})
		list = append(list, 5*i+2)
		if i%2 == 0 && i > 1 {
			want = append(want, 5*i+2)
		}
	}
	list = append(list, 7)
	if got := span.Of(l, list); !slices.Equal(got, want) {
		t.Errorf("Of: %d numbers, not %d", len(got), len(want))
	}
	if !span.Has(l, 11, 1) || span.Has(l, 14, 1) || span.Has(l, 9, 1) || !span.Has(append(l, set(0, 0)...), 14, 14) {
		t.Error("Has of a long set")
	}
}
