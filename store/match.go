package store

import (
	"strings"

	"postbag/octet"
)

const (
	bitsOfWord = 64
	topBit     = bitsOfWord - 1
)

// places are places in a pattern, a bit each: one behind each of its letters (the bytes that stand for themselves), one ahead of all.
type places []uint64

func (p places) add(place int) { p[place/bitsOfWord] |= 1 << (place % bitsOfWord) }

func (p places) has(place int) bool { return p[place/bitsOfWord]>>(place%bitsOfWord)&1 == 1 }

// word is 64 places; a byte that is no letter of the pattern has none.
func (p places) word(at int) uint64 {
	if p == nil {
		return 0
	}
	return p[at]
}

// sieve is a pattern by its places, so that a byte of a name is held against 64 of them at once.
type sieve struct {
	ahead   [256]places // by byte: those with this letter behind them
	passing places      // those where bytes but / may be passed over
	any     places      // those where / may be, too
}

// walk is the places of a pattern that the bytes of a name may have led to.
type walk struct {
	sieve
	at       places
	from, to int // the words of at that count; what stands ahead of them is of no use any more
}

// Match tells whether a name fits a pattern of LIST.
func Match(pattern, name string) bool {
	letters := len(pattern) - strings.Count(pattern, "*") - strings.Count(pattern, "%")
	if letters > len(name) {
		return false
	}
	inAnyCase := 0
	if name == inbox || isBelow(name, inbox) {
		inAnyCase = len(inbox)
	}
	w := begun(pattern, letters)
	for i := range len(name) {
		other := name[i]
		if i < inAnyCase {
			other = octet.Lower(name[i : i+1])[0]
		}
		w.step(name[i], other)
	}
	return w.at.has(letters)
}

// begun is a walk that stands ahead of all letters.
func begun(pattern string, letters int) *walk {
	none := func() places { return make(places, letters/bitsOfWord+1) }
	w := &walk{at: none()}
	w.passing, w.any = none(), none()
	place := 0
	for i := range len(pattern) {
		switch c := pattern[i]; c {
		case '*':
			w.any.add(place)
			fallthrough
		case '%':
			w.passing.add(place)
		default:
			if w.ahead[c] == nil {
				w.ahead[c] = none()
			}
			w.ahead[c].add(place)
			place++
		}
	}
	w.at.add(0)
	return w
}

// step takes a byte of the name, which the pattern may write as the other one.
func (w *walk) step(c, other byte) {
	stays := w.passing
	if c == '/' {
		stays = w.any
	}
	from, carry := w.from, uint64(0)
	for i := w.from; i <= w.to; i++ {
		hit := w.at[i] & (w.ahead[c].word(i) | w.ahead[other].word(i))
		w.at[i] = hit<<1 | carry | w.at[i]&stays[i]
		carry = hit >> topBit
		// From a * on every way can be gone that could be gone from a place ahead of it.
		if w.at[i]&w.any[i] != 0 {
			from = i
		}
	}
	if carry != 0 {
		w.to++
		w.at[w.to] = carry
	}
	for from < w.to && w.at[from] == 0 {
		from++
	}
	w.from = from
}
