package letter

import (
	"slices"
	"strings"

	"postbag/api"
)

// What is put where space stands between two pieces.
const (
	spaced   = " "
	closedUp = ""
)

// Addresses reads a list of addresses.
func Addresses(value string) []api.Address {
	var list []api.Address
	tell := func(a api.Address) {
		if len(list) < api.MaxAddress {
			list = append(list, a)
		}
	}
	c := &cursor{rest: value}
	inGroup := false
	for more := true; more && len(list) < api.MaxAddress; {
		row, end := c.part()
		more = end != ""
		switch {
		case end == ":" && !inGroup:
			tell(api.Address{Box: there(textOf(row, spaced))})
			inGroup = true
		case !isSpace(row):
			tell(addressOf(row))
		}
		if inGroup && (end == ";" || !more) {
			tell(api.Address{})
			inGroup = false
		}
	}
	return list
}

// part reads the pieces of a part, and the sign that it ends at, which is empty at the text's end.
func (c *cursor) part() ([]piece, string) {
	var row []piece
	inside := false
	for p := c.next(); p.kind != nothing; p = c.next() {
		switch {
		case p.is("<"):
			inside = true
		case p.is(">"):
			inside = false
		case !inside && (p.is(",") || p.is(";") || p.is(":")):
			return row, p.text
		}
		row = append(row, p)
	}
	return row, ""
}

// addressOf is the address that a part is.
func addressOf(row []piece) api.Address {
	var a api.Address
	place := row
	if ahead, behind, is := cutAt(row, "<"); is {
		if !isSpace(ahead) {
			a.Name = there(textOf(ahead, spaced))
		}
		place, _, _ = cutAt(behind, ">")
		a.Route, place = cutRoute(place)
	}
	a.Box, a.Host = boxAndHost(place)
	return a
}

// cutRoute cuts the route off a place's beginning.
func cutRoute(place []piece) (api.Text, []piece) {
	first, _, isAt := cutAt(place, "@")
	route, behind, is := cutAt(place, ":")
	if is && isAt && isSpace(first) {
		return there(textOf(route, closedUp)), behind
	}
	return api.Text{}, place
}

func boxAndHost(place []piece) (box, host api.Text) {
	for i, p := range slices.Backward(place) {
		if p.is("@") {
			return there(textOf(place[:i], closedUp)), there(textOf(place[i+1:], closedUp))
		}
	}
	return there(textOf(place, spaced)), there("")
}

func there(s string) api.Text { return api.Text{Is: true, S: s} }

// Ids reads the message ids of a text.
func Ids(value string) []string {
	var ids []string
	var row []piece
	inside := false
	c := &cursor{rest: value}
	for p := c.next(); p.kind != nothing; p = c.next() {
		switch {
		case inside && p.is(">"):
			if id := textOf(row, closedUp); isId(id) {
				ids = append(ids, id)
			}
			inside, row = false, nil
		case inside:
			row = append(row, p)
		case p.is("<"):
			inside = true
		}
	}
	return slices.Clone(ids[max(0, len(ids)-api.MaxIds):])
}

// isId tells whether an @ stands between a text's first and last byte.
func isId(text string) bool {
	return len(text) > 2 && strings.Contains(text[1:len(text)-1], "@")
}
