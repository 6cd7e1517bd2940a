package frame_test

import (
	"fmt"
	"strings"

	"postbag/api"
)

// slowSum reckons a sum turn by turn, as the chapter has it, with numbers alone.
func slowSum(s string) int {
	register := 4294967295
	for _, b := range []byte(s) {
		register ^= int(b)
		for range 8 {
			odd := register%2 == 1
			register /= 2
			if odd {
				register ^= 3988292384
			}
		}
	}
	return register ^ 4294967295
}

// four is a number in four bytes.
func four(n int) string {
	out := make([]byte, 4)
	for i := range out {
		out[3-i] = byte(n % 256)
		n /= 256
	}
	return string(out)
}

// forged is what would be a frame, with sums that are right, whatever stands in it.
func forged(first, kind byte, number, length int, body string) string {
	head := string([]byte{first, kind}) + four(number) + four(length)
	head += four(slowSum(head))
	return head + body + four(slowSum(head+body))
}

func slowFrame(kind, number int, body string) string {
	return forged(0xb7, byte(kind), number, len(body), body)
}

// told is what a scan hands on.
type told struct {
	place int
	frame api.Frame
}

func (o told) String() string {
	return fmt.Sprintf("%d: %d %d %.40q at %d", o.place, o.frame.Kind, o.frame.Number, o.frame.Body, o.frame.At)
}

// slowFirst finds a frame at a place by writing each one that might stand there.
func slowFirst(s string, at int) (told, bool) {
	rest := s[at:]
	for n := range len(rest) - 17 {
		number := 0
		for _, b := range []byte(rest[2:6]) {
			number = number*256 + int(b)
		}
		for kind := 1; kind <= 2 && 1 <= number && number <= 4294967294; kind++ {
			body := rest[14 : 14+n]
			if whole := slowFrame(kind, number, body); strings.HasPrefix(rest, whole) {
				return told{at + len(whole), api.Frame{Kind: kind, Number: number, At: at, Body: body}}, true
			}
		}
	}
	return told{}, false
}

// slowScan is a scan of short bytes.
func slowScan(s string) []told {
	var out []told
	for at := 0; ; at = out[len(out)-1].place {
		next, is := slowFirst(s, at)
		if !is || len(out) > 0 && next.frame.Number != out[len(out)-1].frame.Number+1 {
			return out
		}
		out = append(out, next)
	}
}
