package span

import (
	"slices"
	"strconv"

	"postbag/api"
)

const starText = "*"

// Parse reads a sequence set.
func Parse(s string) ([]api.Range, api.Errno) {
	if len(s) > api.MaxLine {
		return nil, api.ErrLong
	}
	set, is := readPieces(s)
	switch {
	case !is:
		return nil, api.ErrSet
	case len(set) > api.MaxRanges:
		return nil, api.ErrMany
	}
	return set, api.OK
}

// readPieces reads end by end; a comma behind the text makes its last end like those ahead of it.
func readPieces(s string) ([]api.Range, bool) {
	s += ","
	var set []api.Range
	var piece api.Range
	paired := false // a colon stands ahead of the end
	begin := 0
ends:
	for begin < len(s) {
		for at := begin; at < len(s); at++ {
			c := s[at]
			if c != ',' && c != ':' {
				continue
			}
			end, is := readEnd(s[begin:at])
			if !is || paired && c == ':' {
				return nil, false
			}
			if !paired {
				piece.From = end
			}
			piece.To = end
			if c == ',' {
				set = append(set, piece)
			}
			paired = c == ':'
			begin = at + 1
			continue ends
		}
	}
	return set, true
}

func readEnd(s string) (int, bool) {
	if s == starText {
		return star, true
	}
	n, err := strconv.ParseUint(s, 10, 64)
	if err != nil || s[0] == '0' || n > api.MaxNumber {
		return 0, false
	}
	return int(n), true
}

// Print writes one.
func Print(set []api.Range) (string, api.Errno) {
	switch {
	case len(set) > api.MaxRanges:
		return "", api.ErrMany
	case !isSet(set):
		return "", api.ErrSet
	}
	text := ""
	for i, piece := range set {
		if i > 0 {
			text += ","
		}
		text += pieceText(piece)
	}
	return text, api.OK
}

func isSet(set []api.Range) bool {
	return len(set) > 0 && !slices.ContainsFunc(set, func(piece api.Range) bool { return !isPiece(piece) })
}

func pieceText(piece api.Range) string {
	if piece.From == piece.To {
		return endText(piece.From)
	}
	return endText(piece.From) + ":" + endText(piece.To)
}

func endText(end int) string {
	if end == star {
		return starText
	}
	return strconv.Itoa(end)
}
