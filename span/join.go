package span

import (
	"cmp"
	"slices"

	"postbag/api"
)

// Least is the shortest set of a list of numbers.
func Least(list []int) []api.Range {
	var pieces []api.Range
	for _, n := range list {
		if 1 <= n && n <= api.MaxNumber {
			pieces = append(pieces, api.Range{From: n, To: n})
		}
	}
	return together(pieces)
}

// Join puts sets together.
func Join(sets ...[]api.Range) []api.Range {
	var plain []api.Range // the pieces without a star
	var beside []int      // the numbers that stand beside a star
	alone := false        // a star without a number beside it
	for _, set := range sets {
		for _, piece := range set {
			switch {
			case !isPiece(piece):
			case piece.From != star && piece.To != star:
				plain = append(plain, rising(piece))
			case piece.From != piece.To:
				beside = append(beside, max(piece.From, piece.To))
			default:
				alone = true
			}
		}
	}
	if len(beside) > 0 {
		return withStar(plain, slices.Min(beside), slices.Max(beside))
	}
	if alone {
		return append(together(plain), api.Range{From: star, To: star})
	}
	return together(plain)
}

// withStar is pieces without a star, put together with those from the star to each of two numbers.
func withStar(plain []api.Range, least, most int) []api.Range {
	// Wherever the star lies, its two pieces have all that is between the two numbers; one of them then has the rest.
	if least < most {
		plain = append(plain, api.Range{From: least, To: most})
	}
	return append(together(plain), api.Range{From: least, To: star})
}

// together puts rising pieces without a star together: those that overlap or touch are one.
func together(pieces []api.Range) []api.Range {
	sorted := slices.Clone(pieces)
	slices.SortFunc(sorted, func(a, b api.Range) int { return cmp.Compare(a.From, b.From) })
	var joined []api.Range
	for _, piece := range sorted {
		last := len(joined) - 1
		// One less than From, not one more than To: that may be more than an int holds.
		if last >= 0 && piece.From-1 <= joined[last].To {
			joined[last].To = max(joined[last].To, piece.To)
			continue
		}
		joined = append(joined, piece)
	}
	return joined
}
