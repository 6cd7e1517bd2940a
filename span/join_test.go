package span_test

import (
	"fmt"
	"maps"
	"math"
	"math/rand/v2"
	"slices"
	"testing"

	"postbag/api"
	"postbag/span"
)

// runsOf is the pieces of a heap of numbers: one begins at each number whose neighbour below is missing.
func runsOf(has map[int]bool) []api.Range {
	var out []api.Range
	for _, n := range slices.Sorted(maps.Keys(has)) {
		if has[n-1] {
			continue
		}
		to := n
		for has[to+1] {
			to++
		}
		out = append(out, api.Range{From: n, To: to})
	}
	return out
}

func wantLeast(list []int) []api.Range {
	has := map[int]bool{}
	for _, n := range list {
		if n >= 1 && n <= most {
			has[n] = true
		}
	}
	return runsOf(has)
}

// lookAtLeast holds a set against one of another make, what was handed in against what it was, and writes upon the answer: P4.5, P4.7.
func lookAtLeast(t *testing.T, list []int) {
	t.Helper()
	handed := withSpare(list)
	want := wantLeast(list)
	for range 2 {
		got := span.Least(handed.list)
		if !slices.Equal(got, want) {
			t.Errorf("Least(%.90s): %v, not %v", fmt.Sprint(list), got, want)
		}
		overwrite(got)
		if handed.isChanged() {
			t.Errorf("Least(%v): the list is %v now", list, handed.list)
		}
	}
}

// P4.5
func TestLeast(t *testing.T) {
	list := func(l ...int) []int { return l }
	for _, c := range []struct {
		list []int
		want []api.Range
	}{
		{list(7, 3, 4, 4, 9, 5, 0, -2), set(3, 5, 7, 7, 9, 9)},
		{nil, nil},
		{list(), nil},
		{list(0), nil},
		{list(0, -1, math.MinInt, most+1, math.MaxInt), nil},
		{list(1), set(1, 1)},
		{list(1, 0), set(1, 1)},
		{list(1, 2), set(1, 2)},
		{list(2, 1), set(1, 2)},
		{list(1, 3), set(1, 1, 3, 3)},
		{list(3, 1), set(1, 1, 3, 3)},
		{list(3, 2, 1), set(1, 3)},
		{list(5, 5, 5), set(5, 5)},
		{list(1, 2, 4, 5, 7, 9, 10, 11), set(1, 2, 4, 5, 7, 7, 9, 11)},
		{list(most), set(most, most)},
		{list(most, most-1), set(most-1, most)},
		{list(most-1, most, most+1), set(most-1, most)},
		{list(most-2, most, most+1), set(most-2, most-2, most, most)},
		{list(most, 1), set(1, 1, most, most)},
		{list(math.MaxInt, math.MinInt, 1, most), set(1, 1, most, most)},
	} {
		if got := span.Least(c.list); !slices.Equal(got, c.want) {
			t.Errorf("Least(%v): %v, not %v", c.list, got, c.want)
		}
		lookAtLeast(t, c.list)
	}
}

// P4.5, P4.3: any order, doubles; the set has just the list's numbers, whatever the greatest is.
func TestLeastOfManyLists(t *testing.T) {
	r := rand.New(rand.NewPCG(4, 5))
	for range 20000 {
		list := make([]int, r.IntN(16))
		for i := range list {
			list[i] = r.IntN(24) - 2
			switch r.IntN(30) {
			case 0:
				list[i] = most - r.IntN(4)
			case 1:
				list[i] = most + 1 + r.IntN(2)
			}
		}
		lookAtLeast(t, list)
		l := span.Least(list)
		for n := -3; n <= 25; n++ {
			if got, want := span.Has(l, n, 1), n >= 1 && slices.Contains(list, n); got != want {
				t.Errorf("Least(%v): %v has %d: %v", list, l, n, got)
			}
		}
	}
}

// wantJoin is the document's form, step by step, of ends that are small.
func wantJoin(sets [][]api.Range) []api.Range {
	has, beside := map[int]bool{}, map[int]bool{}
	stars := 0
	for _, p := range slices.Concat(sets...) {
		switch {
		case p.From < 0 || p.To < 0 || p.From > most || p.To > most:
		case p.From == 0 && p.To == 0:
			stars++
		case p.From == 0 || p.To == 0:
			stars++
			beside[p.From+p.To] = true
		default:
			for n := min(p.From, p.To); n <= max(p.From, p.To); n++ {
				has[n] = true
			}
		}
	}
	numbers := slices.Sorted(maps.Keys(beside))
	if len(numbers) > 1 {
		for n := numbers[0]; n <= numbers[len(numbers)-1]; n++ {
			has[n] = true
		}
	}
	out := runsOf(has)
	switch {
	case len(numbers) > 0:
		out = append(out, api.Range{From: numbers[0], To: 0})
	case stars > 0:
		out = append(out, api.Range{})
	}
	return out
}

func tellJoin(t *testing.T, sets [][]api.Range, want []api.Range) {
	t.Helper()
	if got := span.Join(sets...); !slices.Equal(got, want) {
		t.Errorf("Join(%.200s): %v, not %v", fmt.Sprint(sets), got, want)
	}
}

// lookAtMemory holds what was handed in against what it was, and writes upon the answer: P4.7.
func lookAtMemory(t *testing.T, sets [][]api.Range) {
	t.Helper()
	var all []handed[api.Range]
	in := make([][]api.Range, len(sets), len(sets)+2)
	for i, l := range sets {
		all = append(all, withSpare(l))
		in[i] = all[i].list
	}
	want := slices.Clone(span.Join(in...))
	for range 2 {
		got := span.Join(in...)
		if !slices.Equal(got, want) {
			t.Errorf("Join(%v): %v, and then %v", sets, want, got)
		}
		overwrite(got)
	}
	for i, h := range all {
		if h.isChanged() || len(in[i]) != len(sets[i]) {
			t.Errorf("Join(%v): the sets are %v now", sets, in)
		}
	}
	for _, l := range in[len(sets):cap(in)] {
		if l != nil {
			t.Errorf("Join(%v): a set stands behind the others: %v", sets, l)
		}
	}
}

// lookAtMeaning holds what one set has against what the others have, for each number and greatest: P4.6.
func lookAtMeaning(t *testing.T, sets [][]api.Range, numbers []int) {
	t.Helper()
	joined := span.Join(sets...)
	for _, greatest := range numbers {
		for _, n := range numbers {
			want := slices.ContainsFunc(sets, func(l []api.Range) bool { return span.Has(l, n, greatest) })
			if got := span.Has(joined, n, greatest); got != want {
				t.Errorf("Join(%v): %v: Has %d of %d: %v, not %v", sets, joined, n, greatest, got, want)
			}
		}
	}
	if again := span.Join(joined); !slices.Equal(again, joined) {
		t.Errorf("Join(%v): joined once more %v", joined, again)
	}
}

func upTo(from, to int) []int {
	var out []int
	for n := from; n <= to; n++ {
		out = append(out, n)
	}
	return out
}

func lookAtJoin(t *testing.T, sets ...[]api.Range) {
	t.Helper()
	tellJoin(t, sets, wantJoin(sets))
	lookAtMemory(t, sets)
	lookAtMeaning(t, sets, upTo(-1, 14))
}

// P4.6
func TestJoin(t *testing.T) {
	sets := func(l ...[]api.Range) [][]api.Range { return l }
	for _, c := range []struct {
		sets [][]api.Range
		want []api.Range
	}{
		{nil, nil},
		{sets(), nil},
		{sets(nil), nil},
		{sets(set(), nil, []api.Range{}), nil},
		{sets(set(9, 9, 2, 4), set(5, 5, 0, 0)), set(2, 5, 9, 9, 0, 0)},
		{sets(set(3, 0), set(7, 0, 1, 1)), set(1, 1, 3, 7, 3, 0)},
		{sets(set(3, 0), set(7, 0)), set(3, 7, 3, 0)},
		{sets(set(8, 0)), set(8, 0)},
		{sets(set(0, 8)), set(8, 0)},
		{sets(set(0, 4), set(5, 2)), set(2, 5, 4, 0)},
		{sets(set(0, 0)), set(0, 0)},
		{sets(set(0, 0, 0, 0), set(0, 0)), set(0, 0)},
		{sets(set(0, 0), set(1, 1)), set(1, 1, 0, 0)},
		{sets(set(0, 0, 5, 0)), set(5, 0)},
		{sets(set(5, 0, 0, 0)), set(5, 0)},
		{sets(set(5, 0), set(5, 0)), set(5, 0)},
		{sets(set(5, 0), set(0, 5)), set(5, 0)},
		{sets(set(5, 0, 6, 0)), set(5, 6, 5, 0)},
		{sets(set(0, 6), set(5, 0)), set(5, 6, 5, 0)},
		{sets(set(7, 0, 3, 0, 5, 0)), set(3, 7, 3, 0)},
		{sets(set(7, 0, 3, 0, 8, 8, 2, 2)), set(2, 8, 3, 0)},
		{sets(set(7, 0, 3, 0, 9, 9, 1, 1)), set(1, 1, 3, 7, 9, 9, 3, 0)},
		{sets(set(5, 0, 5, 5)), set(5, 5, 5, 0)},
		{sets(set(5, 0, 1, 12)), set(1, 12, 5, 0)},
		{sets(set(2, 4)), set(2, 4)},
		{sets(set(4, 2)), set(2, 4)},
		{sets(set(4, 2), set(4, 2)), set(2, 4)},
		{sets(set(1, 9), set(3, 4)), set(1, 9)},
		{sets(set(3, 4), set(1, 9)), set(1, 9)},
		{sets(set(1, 9, 2, 3, 8, 10)), set(1, 10)},
		{sets(set(1, 3), set(3, 5)), set(1, 5)},
		{sets(set(4, 5), set(1, 3)), set(1, 5)},
		{sets(set(5, 6), set(1, 3)), set(1, 3, 5, 6)},
		{sets(set(9, 9, 7, 7, 5, 5), set(6, 6, 8, 8)), set(5, 9)},
		{sets(set(-1, 2, 3, 3)), set(3, 3)},
		{sets(set(-1, 0)), nil},
		{sets(set(0, -1), set(2, 2)), set(2, 2)},
		{sets(set(0, most+1)), nil},
		{sets(set(most+1, 0, 4, 0)), set(4, 0)},
		{sets(set(math.MaxInt, 3, 3, math.MinInt)), nil},
	} {
		tellJoin(t, c.sets, c.want)
		lookAtJoin(t, c.sets...)
	}
}

// P4.6: ends at MaxNumber, and pieces too long to count.
func TestJoinAtTheBounds(t *testing.T) {
	for _, c := range []struct {
		set, want []api.Range
	}{
		{set(most, most), set(most, most)},
		{set(most, most, most-1, most-1), set(most-1, most)},
		{set(most, most, most-2, most-2), set(most-2, most-2, most, most)},
		{set(1, most), set(1, most)},
		{set(most, 1), set(1, most)},
		{set(1, most-1, most, most), set(1, most)},
		{set(1, most, most, 1, 5, 9), set(1, most)},
		{set(most, 0), set(most, 0)},
		{set(0, most, 1, 0), set(1, most, 1, 0)},
		{set(most, 0, most, most), set(most, most, most, 0)},
		{set(most+1, most, most, most), set(most, most)},
		{set(1, most+1), nil},
		{set(math.MinInt, math.MaxInt, math.MaxInt, math.MaxInt, math.MinInt, math.MinInt), nil},
	} {
		tellJoin(t, [][]api.Range{c.set}, c.want)
		lookAtMemory(t, [][]api.Range{c.set})
	}
	numbers := []int{math.MinInt, -1, 0, 1, 2, 3, most - 2, most - 1, most, most + 1, math.MaxInt - 1, math.MaxInt}
	for _, from := range numbers {
		for _, to := range numbers {
			for _, l := range [][]api.Range{nil, set(0, 0), set(2, 0), set(most, 0), set(most, most), set(1, most-1)} {
				lookAtMeaning(t, [][]api.Range{l, set(from, to)}, numbers)
			}
		}
	}
}

// P4.6: all pairs and threes of small pieces.
func TestJoinOfAllSmallSets(t *testing.T) {
	var pieces [][]api.Range
	for from := -1; from <= 4; from++ {
		for to := -1; to <= 4; to++ {
			pieces = append(pieces, set(from, to))
		}
	}
	numbers := upTo(0, 6)
	for _, a := range pieces {
		for _, b := range pieces {
			for _, c := range pieces {
				sets := [][]api.Range{a, append(b[:1:1], c...)}
				tellJoin(t, sets, wantJoin(sets))
				lookAtMeaning(t, sets, numbers)
			}
		}
	}
}

// P4.6
func TestJoinOfManySets(t *testing.T) {
	r := rand.New(rand.NewPCG(4, 6))
	for range 5000 {
		sets := make([][]api.Range, r.IntN(5))
		for i := range sets {
			sets[i] = randomSet(r, 4, 12)
		}
		lookAtJoin(t, sets...)
	}
}

// P4.5, P4.6: a list's set, joined, stays as it is; the sets of two lists joined are that of both.
func TestJoinOfLeasts(t *testing.T) {
	r := rand.New(rand.NewPCG(4, 7))
	for range 5000 {
		var lists [2][]int
		for i := range lists {
			for range r.IntN(10) {
				lists[i] = append(lists[i], r.IntN(16)-1)
			}
		}
		tellJoin(t, [][]api.Range{span.Least(lists[0]), span.Least(lists[1])}, span.Least(slices.Concat(lists[0], lists[1])))
	}
}

// P4.6, W6: one set handed in several times, and the sets in one list of sets with spare room.
func TestJoinOfOneSetSeveralTimes(t *testing.T) {
	l := set(4, 2, 0, 9, 7, 0, 6, 6)
	tellJoin(t, [][]api.Range{l, l, l[1:], l[:1]}, set(2, 4, 6, 9, 7, 0))
	if !slices.Equal(l, set(4, 2, 0, 9, 7, 0, 6, 6)) {
		t.Errorf("the set is %v now", l)
	}
	plain := set(1, 2)
	overwrite(span.Join(plain))
	if !slices.Equal(plain, set(1, 2)) {
		t.Errorf("the set is %v now", plain)
	}
}

// P4.7: an answer may have more than MaxRanges pieces, or none; Print does not take it.
func TestAnswersThatPrintRefuses(t *testing.T) {
	const size = 200000
	var odd []int
	var pieces, others, want []api.Range
	for i := range size {
		n := 2*(size-i) - 1
		odd = append(odd, n, n)
		pieces = append(pieces, api.Range{From: n, To: n})
		others = append(others, api.Range{From: -n, To: n}, api.Range{From: n + 1, To: most + n})
		want = append(want, api.Range{From: 2*i + 1, To: 2*i + 1})
	}
	if got := span.Least(odd); !slices.Equal(got, want) {
		t.Errorf("Least of many: %d pieces, not %d", len(got), len(want))
	}
	got := span.Join(pieces, others, set(0, 0), pieces)
	if !slices.Equal(got, append(want, api.Range{})) {
		t.Errorf("Join of many: %d pieces, not %d", len(got), len(want)+1)
	}
	tellPrint(t, got, "", api.ErrMany)
	tellPrint(t, span.Join(others), "", api.ErrSet)
	tellPrint(t, span.Least(nil), "", api.ErrSet)
	sixtyFive := want[:65]
	tellPrint(t, span.Join(sixtyFive[:64], sixtyFive[64:]), "", api.ErrMany)
	if s, e := span.Print(span.Join(sixtyFive[:32], sixtyFive[32:64])); e != api.OK || len(s) == 0 {
		t.Errorf("64 pieces: %q, %d", s, e)
	}
}

// P4.7: many sets at a time, numbers that stand beside many stars.
func TestJoinOfVeryManySets(t *testing.T) {
	sets := make([][]api.Range, 100000)
	for i := range sets {
		sets[i] = set(0, 5+i, 3*i+1, 3*i+2)
	}
	want := set(1, 2, 4, 100004)
	for n := 100006; n < 300000; n += 3 {
		want = append(want, api.Range{From: n, To: n + 1})
	}
	want = append(want, api.Range{From: 5, To: 0})
	if got := span.Join(sets...); !slices.Equal(got, want) {
		t.Errorf("%d pieces, not %d: %v", len(got), len(want), got[:min(4, len(got))])
	}
}
