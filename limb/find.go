package limb

import (
	"strconv"
	"strings"

	"postbag/api"
	"postbag/letter"
)

// At is the part with a number.
func At(l api.Limb, place string) (api.Limb, bool) {
	found, is := find(l, place)
	if !is {
		return api.Limb{}, false
	}
	found = copyOf(found)
	found.Place = place
	return found, true
}

// find is At without a copy.
func find(l api.Limb, place string) (api.Limb, bool) {
	if place == "" {
		return l, true
	}
	inside := true
	for rest, more := place, true; more; {
		var number string
		number, rest, more = strings.Cut(rest, ".")
		if !inside && isMessage(l) && isOpened(l) {
			l, inside = l.Kids[0], true
		}
		next, is := step(l, number, inside)
		if !is {
			return api.Limb{}, false
		}
		l, inside = next, false
	}
	return l, true
}

// step is the part with one number, of a limb that was reached as an inside or as a part.
func step(l api.Limb, number string, inside bool) (api.Limb, bool) {
	if isMultipart(l) && isOpened(l) {
		return kidOf(l, number)
	}
	return l, inside && number == "1"
}

func kidOf(l api.Limb, number string) (api.Limb, bool) {
	n, _ := strconv.Atoi(number)
	// Written anew, since Atoi takes signs and zeros ahead.
	if n < 1 || n > len(l.Kids) || strconv.Itoa(n) != number {
		return api.Limb{}, false
	}
	return l.Kids[n-1], true
}

// Section is the bytes that a section means; false: there are none such.
func Section(raw string, l api.Limb, s api.Section) (string, bool) {
	if s.Place == "" && s.Kind == api.SectionWhole {
		return raw, true
	}
	piece, is := pieceOf(l, s)
	if !is {
		return "", false
	}
	text, is := bytesOf(raw, piece)
	if !is {
		return "", false
	}
	switch s.Kind {
	case api.SectionFields, api.SectionOthers:
		return letter.Pick(text, s.Kind == api.SectionOthers, s.Names...), true
	}
	return text, true
}

// pieceOf is the piece that a section means, or picks its fields from.
func pieceOf(l api.Limb, s api.Section) (api.Piece, bool) {
	x, is := find(l, s.Place)
	if !is {
		return api.Piece{}, false
	}
	switch s.Kind {
	case api.SectionWhole:
		return x.Body, true
	case api.SectionMime:
		return x.Head, s.Place != ""
	}
	if s.Place != "" {
		if !isMessage(x) || !isOpened(x) {
			return api.Piece{}, false
		}
		x = x.Kids[0]
	}
	switch s.Kind {
	case api.SectionHeader, api.SectionFields, api.SectionOthers:
		return x.Head, true
	case api.SectionText:
		return x.Body, true
	}
	return api.Piece{}, false
}

// Partial is a piece of a text.
func Partial(s string, from, n int) string {
	if from < 0 || n < 0 || from > len(s) {
		return ""
	}
	// What is left is held against n, since from and n together may be too great a number.
	return s[from:][:min(n, len(s)-from)]
}
