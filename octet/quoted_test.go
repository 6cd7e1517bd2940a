package octet_test

import (
	"fmt"
	"math/rand/v2"
	"strings"
	"testing"

	"postbag/octet"
)

func as(n int) string { return strings.Repeat("a", n) }

// P1.5
func TestQuoted(t *testing.T) {
	for s, want := range map[string]string{
		"":                 "",
		"a=b ":             "a=3Db=20",
		"a \r\nb":          "a=20\r\nb",
		"a\t\r\nb\t":       "a=09\r\nb=09",
		"a b\tc":           "a b\tc",
		"  \r\n":           " =20\r\n",
		" \t ":             " \t=20",
		" ":                "=20",
		"\t":               "=09",
		" \r":              " =0D",
		" \n":              " =0A",
		"\n":               "=0A",
		"\r":               "=0D",
		"\n\r":             "=0A=0D",
		"\r\r\n":           "=0D\r\n",
		"\r\n\n":           "\r\n=0A",
		"\r\n\r":           "\r\n=0D",
		"\r\n\r\n":         "\r\n\r\n",
		"\x00\x7f\x80\xff": "=00=7F=80=FF",
		"é":                "=C3=A9",
		"!~<>":             "!~<>",
	} {
		if got := octet.Quoted(s); got != want {
			t.Errorf("Quoted(%q): %q, not %q", s, got, want)
		}
	}
}

// P1.5: each row of the table, for each byte and each thing behind it
func TestQuotedBytes(t *testing.T) {
	for c := range 256 {
		s := string([]byte{byte(c)})
		coded := fmt.Sprintf("=%02X", c)
		for behind, blank := range map[string]string{"x": s, "\r\n": coded, "": coded} {
			want := coded
			switch {
			case c == ' ' || c == '\t':
				want = blank
			case c >= 33 && c <= 126 && c != '=':
				want = s
			}
			if got := octet.Quoted(s + behind); got != want+behind {
				t.Errorf("Quoted of byte %d ahead of %q: %q", c, behind, got)
			}
		}
	}
}

// P1.5: where lines begin anew
func TestQuotedLines(t *testing.T) {
	for s, want := range map[string]string{
		as(75):                      as(75),
		as(76):                      as(75) + "=\r\na",
		as(77):                      as(75) + "=\r\naa",
		as(150):                     as(75) + "=\r\n" + as(75),
		as(151):                     as(75) + "=\r\n" + as(75) + "=\r\na",
		as(75) + "\r\n" + as(75):    as(75) + "\r\n" + as(75),
		as(76) + "\r\n" + as(74):    as(75) + "=\r\na\r\n" + as(74),
		as(40) + "\r\n" + as(76):    as(40) + "\r\n" + as(75) + "=\r\na",
		as(71) + "==":               as(71) + "=3D=\r\n=3D",
		as(72) + "=":                as(72) + "=3D",
		as(72) + "=\r\n":            as(72) + "=3D\r\n",
		as(72) + "=a":               as(72) + "=3D=\r\na",
		as(73) + "=":                as(73) + "=\r\n=3D",
		as(74) + "=":                as(74) + "=\r\n=3D",
		as(75) + "=":                as(75) + "=\r\n=3D",
		as(74) + " b":               as(74) + " =\r\nb",
		as(75) + " b":               as(75) + "=\r\n b",
		as(72) + " ":                as(72) + "=20",
		as(73) + " ":                as(73) + "=\r\n=20",
		as(75) + " ":                as(75) + "=\r\n=20",
		as(74) + " \r\nb":           as(74) + "=\r\n=20\r\nb",
		as(75) + "\n":               as(75) + "=\r\n=0A",
		strings.Repeat("\xff", 26):  strings.Repeat("=FF", 25) + "=\r\n=FF",
		strings.Repeat(" ", 76):     strings.Repeat(" ", 75) + "=\r\n=20",
		"\r\n" + as(76) + "\r\n\r":  "\r\n" + as(75) + "=\r\na\r\n=0D",
		as(75) + "\r\n\r\n" + "=\n": as(75) + "\r\n\r\n=3D=0A",
	} {
		if got := octet.Quoted(s); got != want {
			t.Errorf("Quoted(%q): %q, not %q", s, got, want)
		}
	}
}

// P1.6
func TestFromQuoted(t *testing.T) {
	for s, want := range map[string]string{
		"":                         "",
		"abc":                      "abc",
		"a=3db  \r\nc= \r\nd=x=":   "a=b\r\ncd=x",
		"=41=4a=4A=aF=Af=fF=00=FF": "AJJ\xaf\xaf\xff\x00\xff",
		"=4":                       "=4",
		"=":                        "",
		"==":                       "=",
		"==41":                     "=A",
		"=4=41":                    "=4A",
		"=3D41":                    "=41",
		"=G0=0G=g0=:0=/0=@0=`0":    "=G0=0G=g0=:0=/0=@0=`0",
		"=4 \r\n":                  "=4\r\n",
		"= 41":                     "= 41",
		"a=\r\nb":                  "ab",
		"a= \t \r\nb":              "ab",
		"a =\r\nb":                 "a b",
		"a \t= \r\n b":             "a \t b",
		"a= \t":                    "a",
		"a =":                      "a ",
		"=\r\n":                    "",
		"=\r\n=\r\n":               "",
		"=\r\n\r\n":                "\r\n",
		"=\r":                      "=\r",
		"=\n":                      "=\n",
		"= \rb":                    "= \rb",
		"=\n\r\n":                  "=\n\r\n",
		"= x":                      "= x",
		"=  =":                     "=  ",
		"=x":                       "=x",
		"a  \r\n":                  "a\r\n",
		"a \t\r\n\t \r\n b":        "a\r\n\r\n b",
		"a \t":                     "a",
		"  ":                       "",
		" a\tb  c":                 " a\tb  c",
		"a \rb":                    "a \rb",
		"a \nb":                    "a \nb",
		"a \r":                     "a \r",
		"a=20\r\n":                 "a \r\n",
		"a=20 \t\r\n":              "a \r\n",
		"a=20":                     "a ",
		"a=09 ":                    "a\t",
		" =20":                     "  ",
		"=\r\n \r\nb":              "\r\nb",
		"=\r\n ":                   "",
		"=0D=0A":                   "\r\n",
		" =0D=0A":                  " \r\n",
		"=0D\n":                    "\r\n",
		"\x00\x7f\xff":             "\x00\x7f\xff",
		"a\x0b\r\n":                "a\x0b\r\n",
	} {
		if got := octet.FromQuoted(s); got != want {
			t.Errorf("FromQuoted(%q): %q, not %q", s, got, want)
		}
	}
}

// P1.6: every pair of bytes behind '='
func TestFromQuotedDigits(t *testing.T) {
	worth := func(c int) int { return strings.IndexByte("0123456789abcdef", octet.Lower(string([]byte{byte(c)}))[0]) }
	for a := range 256 {
		for b := range 256 {
			s := "=" + string([]byte{byte(a), byte(b)})
			want := s + "."
			switch {
			case worth(a) >= 0 && worth(b) >= 0:
				want = string([]byte{byte(worth(a)*16 + worth(b))}) + "."
			case a == '\r' && b == '\n':
				want = "."
			}
			if got := octet.FromQuoted(s + "."); got != want {
				t.Errorf("FromQuoted(%q): %q, not %q", s+".", got, want)
			}
		}
	}
}

func lookAtQuoted(t *testing.T, s string) {
	q := octet.Quoted(s)
	if got := octet.FromQuoted(q); got != s {
		t.Errorf("%q: quoted %q, read %q", s, q, got)
	}
	for _, line := range strings.Split(q, "\r\n") {
		if len(line) > 76 || strings.HasSuffix(line, " ") || strings.HasSuffix(line, "\t") {
			t.Errorf("Quoted(%q): the line %q", s, line)
		}
		for i := range len(line) {
			if c := line[i]; c != '\t' && (c < 32 || c > 126) {
				t.Errorf("Quoted(%q): the byte %d", s, c)
			}
		}
	}
}

// P1.7
func TestQuotedIsReadBack(t *testing.T) {
	pieces := []string{"a", " ", "\t", "\r", "\n", "=", "\xff"}
	everyText(pieces, 5, func(s string) { lookAtQuoted(t, s) })
	for n := 68; n <= 78; n++ {
		everyText(pieces, 4, func(s string) { lookAtQuoted(t, as(n)+s) })
	}
	lookAtQuoted(t, everyByte())
	r := rand.New(rand.NewPCG(1, 7))
	for range 500 {
		lookAtQuoted(t, randomText(r, append(pieces, "\r\n", "=3D", "=\r\n", "bcd", "é"), r.IntN(300)))
	}
}
