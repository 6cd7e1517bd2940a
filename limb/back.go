package limb

import (
	"iter"

	"postbag/api"
)

// Back cuts a message's bytes into pieces, without a gap: heads, leaves, and what stands between them.
func Back(raw string, l api.Limb) []api.Piece {
	var pieces []api.Piece
	at := 0
	for _, p := range known(l) {
		if _, is := bytesOf(raw, p); !is || p.From < at {
			return gap(nil, 0, len(raw))
		}
		pieces = append(gap(pieces, at, p.From), p)
		at = p.To
	}
	return gap(pieces, at, len(raw))
}

// gap puts what stands between two places to the pieces, if that is not empty.
func gap(pieces []api.Piece, from, to int) []api.Piece {
	if from == to {
		return pieces
	}
	return append(pieces, api.Piece{From: from, To: to})
}

// known is the pieces that a limb knows of, but for the empty ones.
func known(l api.Limb) []api.Piece {
	pieces := gap(nil, l.Head.From, l.Head.To)
	if !isOpened(l) {
		return gap(pieces, l.Body.From, l.Body.To)
	}
	for _, kid := range l.Kids {
		pieces = append(pieces, known(kid)...)
	}
	return pieces
}

// Leaves goes through the parts without parts of their own, in order, as far as it is asked.
func Leaves(l api.Limb) iter.Seq[api.Limb] { return leaves(copyOf(l)) }

// leaves goes through a limb that nobody else can write upon.
func leaves(l api.Limb) iter.Seq[api.Limb] {
	return func(yield func(api.Limb) bool) {
		if !isOpened(l) {
			yield(copyOf(l))
			return
		}
		for _, kid := range l.Kids {
			for leaf := range leaves(kid) {
				if !yield(leaf) {
					return
				}
			}
		}
	}
}
