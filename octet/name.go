package octet

import (
	"strings"
	"unicode/utf8"

	"postbag/api"
)

const (
	mostName = api.MaxLevels*(api.MaxLevel+1) - 1
	inbox    = "INBOX"

	firstHigh  = 0xd800 // of UTF-16's pairs
	firstLow   = 0xdc00
	behindLow  = 0xe000
	firstPair  = 0x10000 // the first character that needs one
	bitsOfHalf = 10
	maskOfHalf = 1<<bitsOfHalf - 1
)

// Wire writes a mailbox's name as it is sent.
func Wire(name string) (string, api.Errno) {
	switch {
	case len(name) > mostName:
		return "", api.ErrLong
	case !utf8.ValidString(name):
		return "", api.ErrUtf
	case !isName(name):
		return "", api.ErrName
	}
	return writeName(name), api.OK
}

// FromWire reads what Wire writes, and a first level that is inbox in any case as INBOX.
func FromWire(s string) (string, api.Errno) {
	if len(s) > api.MaxLine {
		return "", api.ErrLong
	}
	text := readName(s)
	// A text has one form only, so writing it again finds every fault that the reader passes over.
	if writeName(text) != s {
		return "", api.ErrName
	}
	name := withInbox(text)
	if !isName(name) {
		return "", api.ErrName
	}
	return name, api.OK
}

func firstLevel(name string) string {
	level, _, _ := strings.Cut(name, "/")
	return level
}

func withInbox(name string) string {
	if first := firstLevel(name); Same(first, inbox) {
		return inbox + name[len(first):]
	}
	return name
}

func isName(name string) bool {
	if withInbox(name) != name {
		return false
	}
	levels, from := 1, 0
	for at, r := range name {
		switch {
		case r == '/':
			if !fitsLevel(at - from) {
				return false
			}
			levels++
			from = at + 1
		case r < 32, r == 127, r == '%', r == '*':
			return false
		}
	}
	return levels <= api.MaxLevels && fitsLevel(len(name)-from)
}

func fitsLevel(n int) bool { return 1 <= n && n <= api.MaxLevel }

func writeName(text string) string {
	var out []byte
	from := 0 // where the run that is under way begins
	for at, r := range text {
		if r < 32 || r > 126 {
			continue
		}
		out = appendRun(out, text[from:at])
		out = append(out, byte(r))
		if r == '&' {
			out = append(out, '-')
		}
		from = at + 1
	}
	return string(appendRun(out, text[from:]))
}

func appendRun(out []byte, run string) []byte {
	if run == "" {
		return out
	}
	out = append(out, '&')
	out = append(out, pack(writePairs(run), nameLetters)...)
	return append(out, '-')
}

func writePairs(run string) string {
	var out []byte
	for _, r := range run {
		if r >= firstPair {
			half := r - firstPair
			out = appendUnit(out, firstHigh|half>>bitsOfHalf)
			r = firstLow | half&maskOfHalf
		}
		out = appendUnit(out, r)
	}
	return string(out)
}

func appendUnit(out []byte, unit rune) []byte {
	return append(out, byte(unit>>8), byte(unit))
}

// readName reads generously: what writeName would write otherwise, FromWire finds.
func readName(s string) string {
	var out []byte
scan:
	for at := 0; at < len(s); at++ {
		if s[at] != '&' {
			out = append(out, s[at])
			continue
		}
		for end := at + 1; end < len(s); end++ {
			if s[end] == '-' {
				out = append(out, readRun(s[at+1:end])...)
				at = end
				continue scan
			}
		}
		break
	}
	return string(out)
}

func readRun(run string) string {
	if run == "" {
		return "&"
	}
	return readPairs(unpack(run, nameLetters))
}

func readPairs(b string) string {
	var out []byte
	for at := 0; at+1 < len(b); at += 2 {
		r := unitAt(b, at)
		if low := unitAt(b, at+2); firstHigh <= r && r < firstLow && firstLow <= low && low < behindLow {
			r = firstPair + (r-firstHigh)<<bitsOfHalf + (low - firstLow)
			at += 2
		}
		// Half a pair becomes U+FFFD here, which is written otherwise than it came.
		out = utf8.AppendRune(out, r)
	}
	return string(out)
}

func unitAt(b string, at int) rune {
	if at+1 >= len(b) {
		return 0
	}
	return rune(b[at])<<8 | rune(b[at+1])
}
