package lex_test

import (
	"math/big"
	"math/rand/v2"
	"regexp"
	"testing"

	"postbag/lex"
)

var announcedForm = regexp.MustCompile(`(?s)\A(?:[^"]|"(?:[^"\\]|\\.)*")*\{([0-9]+)(\+?)\}\z`)

// wantAnnounced reads by a form of another make.
func wantAnnounced(line string) (int, bool, bool) {
	m := announcedForm.FindStringSubmatch(line)
	if m == nil {
		return 0, false, false
	}
	n, _ := new(big.Int).SetString(m[1], 10)
	if n.Cmp(big.NewInt(4294967295)) > 0 {
		return 4294967296, m[2] == "+", true
	}
	return int(n.Int64()), m[2] == "+", true
}

func tellAnnounced(t *testing.T, line string, n int, plus, is bool) {
	t.Helper()
	if gotN, gotPlus, gotIs := lex.Announced(line); gotN != n || gotPlus != plus || gotIs != is {
		t.Errorf("Announced(%.60q): %d, %v, %v, not %d, %v, %v", line, gotN, gotPlus, gotIs, n, plus, is)
	}
}

func lookAtAnnounced(t *testing.T, line string) {
	t.Helper()
	n, plus, is := wantAnnounced(line)
	tellAnnounced(t, line, n, plus, is)
}

// P3.3
func TestAnnounced(t *testing.T) {
	for line, want := range map[string]struct {
		n    int
		plus bool
	}{
		"{0}":                     {0, false},
		"{0+}":                    {0, true},
		"a {3}":                   {3, false},
		"a {03+}":                 {3, true},
		"a{3}":                    {3, false},
		"{3}{4}":                  {4, false},
		"{3} {4+}":                {4, true},
		"{{5}":                    {5, false},
		"}{5}":                    {5, false},
		"({5}":                    {5, false},
		`\{5}`:                    {5, false},
		`\"" {5}`:                 {5, false},
		`a "\"" {3}`:              {3, false},
		`a "\\" {3}`:              {3, false},
		`a "\\\"" {3}`:            {3, false},
		`"{1}" {2}`:               {2, false},
		`"a"{2}`:                  {2, false},
		`"\a"{2}`:                 {2, false},
		`"" "" {2}`:               {2, false},
		"\x00\r\n\x80\xff{2}":     {2, false},
		"\"\x00\r\n\x80\"{2}":     {2, false},
		"{4294967294}":            {4294967294, false},
		"{4294967295}":            {4294967295, false},
		"{4294967296}":            {4294967296, false},
		"{4294967297+}":           {4294967296, true},
		"{42949672950}":           {4294967296, false},
		"{18446744073709551616}":  {4294967296, false},
		"{99999999999999999999+}": {4294967296, true},
		"{00000000000000000000000000000000000000004294967295}": {4294967295, false},
		"{" + times(100000, "0") + "7+}":                       {7, true},
		"{" + times(100000, "9") + "}":                         {4294967296, false},
		times(100000, `"{" `) + "{12}":                         {12, false},
		times(5000, " ") + "{12}":                              {12, false},
	} {
		tellAnnounced(t, line, want.n, want.plus, true)
	}
}

// P3.3
func TestNothingAnnounced(t *testing.T) {
	for _, line := range []string{"", "a", "{", "}", "{}", "{+}", "{3", "3}", "{3++}", "{+3}", "{-3}", "{3 }", "{ 3}", "{3x}", "{x3}", "{0x3}", "{3} ", "{3}\r\n", "{3}a", "{3}}", "{{3}}", `{3}"`, `a "{3}`, `"{3}"`, `"\"{3}`, `"\\" "{3}`, `"" "\{3}`, `"\{3}`, `"\"" "{3+}`, `\"{3}`, times(99999, `"`) + "{3}", times(100000, "{"), times(100000, "{1") + "}x"} {
		tellAnnounced(t, line, 0, false, false)
	}
}

// P3.3: any bytes, within quotes and outside of them.
func TestAnnouncedOfEachByte(t *testing.T) {
	for c := range 256 {
		b := string([]byte{byte(c)})
		for _, line := range []string{b, b + "{3}", "{3}" + b, "{" + b + "}", "{3" + b + "}", "{" + b + "3}", "{3+" + b, "{3" + b, `"` + b + `"{3}`, `"\` + b + `{3}`, `"\` + b + `"{3}`, `"` + b + `{3}`, `\` + b + `"{3}`} {
			lookAtAnnounced(t, line)
		}
	}
}

// P3.3
func TestAnnouncedOfManyLines(t *testing.T) {
	pieces := []string{`"`, `\`, "{", "}", "+", "0", "7", " "}
	everyText(pieces, 5, func(line string) {
		lookAtAnnounced(t, line)
		lookAtAnnounced(t, line+"{3}")
	})
	r := rand.New(rand.NewPCG(3, 4))
	pieces = append(pieces, "{1}", "{4294967295}", "{42949672960+}", "\x80", "a", "(", "é")
	for range 30000 {
		line := randomText(r, pieces, r.IntN(12))
		lookAtAnnounced(t, line)
		lookAtAnnounced(t, line+"{12+}")
	}
}
