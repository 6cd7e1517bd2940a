package thread

import (
	"cmp"
	"slices"
	"strings"

	"postbag/api"
	"postbag/octet"
)

// keyNames are the words of the keys, each at its Kind.
var keyNames = [...]string{
	api.ByArrival: "ARRIVAL",
	api.ByCc:      "CC",
	api.ByDate:    "DATE",
	api.ByFrom:    "FROM",
	api.BySize:    "SIZE",
	api.BySubject: "SUBJECT",
	api.ByTo:      "TO",
}

// ReadBy reads the sort keys in a word's brackets.
func ReadBy(w api.Word) ([]api.By, api.Errno) {
	if len(w.Kids) > 2*api.MaxBys {
		return nil, api.ErrLong
	}
	if w.Kind != api.WordList || len(w.Kids) == 0 {
		return nil, api.ErrBy
	}
	var keys []api.By
	reverse := false
	for _, kid := range w.Kids {
		if !isPlain(kid) {
			return nil, api.ErrBy
		}
		if !reverse && octet.Same(kid.Text, "REVERSE") {
			reverse = true
			continue
		}
		kind := kindOf(kid.Text)
		if kind == 0 {
			return nil, api.ErrBy
		}
		keys = append(keys, api.By{Kind: kind, Reverse: reverse})
		reverse = false
	}
	switch {
	case reverse:
		return nil, api.ErrBy
	case len(keys) > api.MaxBys:
		return nil, api.ErrMany
	}
	return keys, api.OK
}

func isPlain(w api.Word) bool {
	return w.Kind == api.WordAtom && len(w.Kids) == 0 && !w.Glued
}

// kindOf is 0, if a word is no key's.
func kindOf(word string) int {
	for kind := api.ByArrival; kind < len(keyNames); kind++ {
		if octet.Same(word, keyNames[kind]) {
			return kind
		}
	}
	return 0
}

// card has methods for what an api.Card can be held against another by.
type card api.Card

func (a *card) arrival(b *card) int { return cmp.Compare(a.Arrival, b.Arrival) }
func (a *card) cc(b *card) int      { return strings.Compare(a.Cc, b.Cc) }
func (a *card) date(b *card) int    { return cmp.Compare(a.Sent, b.Sent) }
func (a *card) from(b *card) int    { return strings.Compare(a.From, b.From) }
func (a *card) size(b *card) int    { return cmp.Compare(a.Size, b.Size) }
func (a *card) subject(b *card) int { return strings.Compare(a.Subject, b.Subject) }
func (a *card) to(b *card) int      { return strings.Compare(a.To, b.To) }

// key is a sort key as it is gone by.
type key struct {
	compare func(a, b *card) int
	reverse bool
}

// keysOf leaves out the keys that part no two cards: kinds that there are not, and those that stood there already. So a long list of keys does not make each comparison long.
func keysOf(by []api.By) []key {
	ways := [...]func(a, b *card) int{
		api.ByArrival: (*card).arrival,
		api.ByCc:      (*card).cc,
		api.ByDate:    (*card).date,
		api.ByFrom:    (*card).from,
		api.BySize:    (*card).size,
		api.BySubject: (*card).subject,
		api.ByTo:      (*card).to,
	}
	var keys []key
	for _, b := range by {
		if b.Kind < api.ByArrival || b.Kind >= len(ways) || ways[b.Kind] == nil {
			continue
		}
		keys = append(keys, key{ways[b.Kind], b.Reverse})
		ways[b.Kind] = nil
	}
	return keys
}

// Sort puts cards in order, by the first key, then the second, and so on, then by their numbers; it tells their places.
func Sort(cards []api.Card, by ...api.By) []int {
	keys := keysOf(by)
	places := make([]int, len(cards))
	for i := range places {
		places[i] = i
	}
	slices.SortFunc(places, func(i, j int) int {
		a, b := (*card)(&cards[i]), (*card)(&cards[j])
		for _, k := range keys {
			if c := k.compare(a, b); c != 0 && k.reverse {
				return -c
			} else if c != 0 {
				return c
			}
		}
		return cmp.Or(cmp.Compare(a.Seq, b.Seq), cmp.Compare(i, j))
	})
	return places
}
