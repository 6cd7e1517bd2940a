package octet

import (
	"strings"

	"postbag/api"
)

const (
	commonLetters = "ABCDEFGHIJKLMNOPQRSTUVWXYZabcdefghijklmnopqrstuvwxyz0123456789+"
	mailLetters   = commonLetters + "/"
	nameLetters   = commonLetters + "," // a slash parts the levels of a name
)

const noLetter = -1

// Base64 writes bytes in base64.
func Base64(s string) string {
	out := pack(s, mailLetters)
	for len(out)%4 != 0 {
		out = append(out, '=')
	}
	return string(out)
}

// FromBase64 reads just what Base64 writes.
func FromBase64(s string) (string, api.Errno) {
	b := Loose64(s)
	// Bytes have one form only, so writing them again finds every fault that the loose reader passes over.
	if Base64(b) != s {
		return "", api.ErrBase
	}
	return b, api.OK
}

// Loose64 reads base64 as mail has it.
func Loose64(s string) string {
	counting, _, _ := strings.Cut(s, "=")
	return unpack(counting, mailLetters)
}

func pack(s, letters string) []byte {
	out := make([]byte, 0, (len(s)+2)/3*4)
	bits, held := uint(0), 0
	for i := range len(s) {
		bits, held = bits<<8|uint(s[i]), held+8
		for held >= 6 {
			held -= 6
			out = append(out, letters[bits>>held&63])
		}
	}
	if held > 0 {
		out = append(out, letters[bits<<(6-held)&63])
	}
	return out
}

func unpack(s, letters string) string {
	worth := worths(letters)
	out := make([]byte, 0, len(s)/4*3+2)
	bits, held := uint(0), 0
	for i := range len(s) {
		w := worth[s[i]]
		if w == noLetter {
			continue
		}
		bits, held = bits<<6|uint(w), held+6
		if held >= 8 {
			held -= 8
			out = append(out, byte(bits>>held))
		}
	}
	return string(out)
}

func worths(letters string) [256]int8 {
	var worth [256]int8
	for c := range worth {
		worth[c] = noLetter
	}
	for i := range len(letters) {
		worth[letters[i]] = int8(i)
	}
	return worth
}
