package octet

const (
	mostQuoted = 75 // a line's bytes ahead of the '=' that breaks it
	largeHex   = "0123456789ABCDEF"
	noDigit    = -1
)

// Quoted writes bytes in quoted-printable.
func Quoted(s string) string {
	out := make([]byte, 0, len(s))
	line := 0
	for at := 0; at < len(s); at++ {
		if endsLine(s, at) {
			out = append(out, lineEnd...)
			line = 0
			at++
			continue
		}
		piece := quotedPiece(s, at)
		if line+len(piece) > mostQuoted {
			out = append(out, "="+lineEnd...)
			line = 0
		}
		out = append(out, piece...)
		line += len(piece)
	}
	return string(out)
}

func quotedPiece(s string, at int) string {
	c := s[at]
	if goesBare(c) || isBlank(c) && at+1 < len(s) && !endsLine(s, at+1) {
		return s[at : at+1]
	}
	return string([]byte{'=', largeHex[c>>4], largeHex[c&15]})
}

func goesBare(c byte) bool { return 33 <= c && c <= 126 && c != '=' }

func isBlank(c byte) bool { return c == ' ' || c == '\t' }

// FromQuoted reads quoted-printable.
func FromQuoted(s string) string {
	out := make([]byte, 0, len(s))
	for at := 0; at < len(s); {
		switch {
		case s[at] == '=':
			out, at = readEquals(out, s, at)
		case isBlank(s[at]):
			// A run is judged once as a whole: byte by byte, long runs would be gone through again and again.
			end := pastBlanks(s, at)
			if end < len(s) && !endsLine(s, end) {
				out = append(out, s[at:end]...)
			}
			at = end
		default:
			out = append(out, s[at])
			at++
		}
	}
	return string(out)
}

func readEquals(out []byte, s string, at int) ([]byte, int) {
	if at+2 < len(s) {
		high, low := hexWorth(s[at+1]), hexWorth(s[at+2])
		if high != noDigit && low != noDigit {
			return append(out, byte(high<<4|low)), at + 3
		}
	}
	end := pastBlanks(s, at+1)
	if end == len(s) {
		return out, end
	}
	if endsLine(s, end) {
		return out, end + len(lineEnd)
	}
	return append(out, '='), at + 1
}

func pastBlanks(s string, at int) int {
	for at < len(s) && isBlank(s[at]) {
		at++
	}
	return at
}

func hexWorth(c byte) int {
	switch {
	case '0' <= c && c <= '9':
		return int(c - '0')
	case 'A' <= c && c <= 'F':
		return int(c-'A') + 10
	case 'a' <= c && c <= 'f':
		return int(c-'a') + 10
	}
	return noDigit
}
