package limb

import (
	"strconv"
	"strings"

	"postbag/api"
	"postbag/letter"
	"postbag/octet"
)

// maxBoundary is how many bytes a boundary may have.
const maxBoundary = 70

// tree reads a message's limbs.
type tree struct {
	raw   string
	parts int // of all limbs that were opened so far
}

// spot is where a limb lies.
type spot struct {
	piece    api.Piece
	place    string
	depth    int
	inside   bool // the whole, or a message's kid
	inDigest bool // directly
}

// Parse reads a message's parts.
func Parse(raw string) api.Limb {
	t := &tree{raw: raw}
	return t.limb(spot{piece: api.Piece{To: len(raw)}, inside: true})
}

// limb is the limb of a piece, with all that lies in it.
func (t *tree) limb(s spot) api.Limb {
	head, _ := letter.Split(t.raw[s.piece.From:s.piece.To])
	middle := s.piece.From + len(head)
	l := headed(head, s.inDigest)
	l.Place = s.place
	l.Head = api.Piece{From: s.piece.From, To: middle}
	l.Body = api.Piece{From: middle, To: s.piece.To}
	for i, part := range t.opened(l, s.depth) {
		l.Kids = append(l.Kids, t.limb(spotOf(l, s, i, part)))
	}
	t.settle(&l)
	return l
}

// opened is the parts of a limb that is opened, and none of one that is not.
func (t *tree) opened(l api.Limb, depth int) []api.Piece {
	if depth >= api.MaxInside {
		return nil
	}
	parts := t.partsOf(l)
	if t.parts+len(parts) > api.MaxLimbs {
		return nil
	}
	// Counted ahead of what lies in them: limbs behind this one have what is left.
	t.parts += len(parts)
	return parts
}

func (t *tree) partsOf(l api.Limb) []api.Piece {
	switch {
	case isMultipart(l):
		return cut(t.raw, l.Body, boundaryOf(l.Params))
	case isMessage(l) && isPlain(l.Coding):
		return []api.Piece{l.Body}
	}
	return nil
}

// isPlain tells whether a message's bytes stand as they are.
func isPlain(coding api.Text) bool {
	switch coding.S {
	case "", "7bit", "8bit", "binary":
		return true
	}
	return false
}

// boundaryOf is what a multipart is cut by; empty: it is not.
func boundaryOf(params []api.Param) string {
	for _, p := range params {
		if p.Name == "boundary" && len(p.Value) <= maxBoundary && !strings.Contains(p.Value, lineEnd) {
			return p.Value
		}
	}
	return ""
}

// spotOf is where the kid i of a limb lies.
func spotOf(l api.Limb, s spot, i int, piece api.Piece) spot {
	kid := spot{piece: piece, place: below(s.place, i+1), depth: s.depth + 1}
	if isMultipart(l) {
		kid.inDigest = l.Sub == "digest"
		return kid
	}
	kid.inside = true
	if !s.inside {
		// A part and its inside have one number.
		kid.place = s.place
	}
	return kid
}

func below(place string, number int) string {
	if place == "" {
		return strconv.Itoa(number)
	}
	return place + "." + strconv.Itoa(number)
}

// settle says what becomes of a limb, now that its kids are known.
func (t *tree) settle(l *api.Limb) {
	switch {
	case isMessage(*l) && isOpened(*l):
		// Its lines are counted as those of a text.
		fallthrough
	case l.Type == "text":
		l.Lines = strings.Count(t.raw[l.Body.From:l.Body.To], lineEnd)
	case isMessage(*l):
		// One that is not opened is bytes alone, as a multipart.
		fallthrough
	case isMultipart(*l) && !isOpened(*l):
		l.Type, l.Sub, l.Params = "application", "octet-stream", nil
	}
}

// mark is what a line is to a multipart.
type mark int

const (
	noBoundary mark = iota
	boundary
	lastBoundary
)

func markOf(line, name string) mark {
	rest, is := strings.CutPrefix(line, "--"+name)
	rest, isLast := strings.CutPrefix(rest, "--")
	switch {
	case !is || strings.Trim(rest, blanks) != "":
		return noBoundary
	case isLast:
		return lastBoundary
	}
	return boundary
}

// cut is the parts of a multipart's body.
func cut(raw string, body api.Piece, name string) []api.Piece {
	if name == "" {
		return nil
	}
	var parts []api.Piece
	inPart, from, at := false, 0, body.From
	for line := range octet.Lines(raw[body.From:body.To]) {
		behind := min(at+len(line)+len(lineEnd), body.To)
		if m := markOf(line, name); m != noBoundary {
			if inPart {
				// The line end ahead belongs to the boundary line, or, of a part of no bytes, to the one ahead.
				parts = append(parts, api.Piece{From: from, To: max(from, at-len(lineEnd))})
			}
			if m == lastBoundary {
				return parts
			}
			inPart, from = true, behind
		}
		at = behind
	}
	if inPart {
		parts = append(parts, api.Piece{From: from, To: body.To})
	}
	return parts
}
