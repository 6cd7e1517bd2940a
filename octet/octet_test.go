package octet_test

import (
	"math/rand/v2"
	"slices"
	"strings"
	"sync"
	"testing"

	"postbag/octet"
)

// everyByte is a text of all bytes, from 0 to 255.
func everyByte() string {
	b := make([]byte, 256)
	for i := range b {
		b[i] = byte(i)
	}
	return string(b)
}

// everyText hands on all texts of at most most pieces.
func everyText(pieces []string, most int, look func(string)) {
	var grow func(string, int)
	grow = func(s string, left int) {
		look(s)
		if left == 0 {
			return
		}
		for _, p := range pieces {
			grow(s+p, left-1)
		}
	}
	grow("", most)
}

func randomText(r *rand.Rand, pieces []string, n int) string {
	var b strings.Builder
	for range n {
		b.WriteString(pieces[r.IntN(len(pieces))])
	}
	return b.String()
}

func isLarge(c byte) bool { return strings.IndexByte("ABCDEFGHIJKLMNOPQRSTUVWXYZ", c) >= 0 }

// P1.1
func TestLowerTurnsLargeLettersAlone(t *testing.T) {
	for c := range 256 {
		want := byte(c)
		if isLarge(want) {
			want += 32
		}
		if got := octet.Lower(string([]byte{byte(c)})); got != string([]byte{want}) {
			t.Errorf("Lower of byte %d: %q", c, got)
		}
	}
	for s, want := range map[string]string{
		"":           "",
		"INBOX\xc4":  "inbox\xc4",
		"aZ[`{@9 É":  "az[`{@9 É",
		"\x00\xffA":  "\x00\xffa",
		"already so": "already so",
	} {
		if got := octet.Lower(s); got != want {
			t.Errorf("Lower(%q): %q, not %q", s, got, want)
		}
	}
}

// P1.1
func TestSameKnowsCaseOfLettersAlone(t *testing.T) {
	for a := range 256 {
		for b := range 256 {
			x, y := byte(a), byte(b)
			want := x == y || isLarge(x) && y == x+32 || isLarge(y) && x == y+32
			if got := octet.Same("p"+string([]byte{x}), "P"+string([]byte{y})); got != want {
				t.Errorf("Same of bytes %d and %d: %v", a, b, got)
			}
		}
	}
	for _, c := range []struct {
		a, b string
		want bool
	}{
		{"", "", true},
		{"Ab", "aB", true},
		{"ab", "abc", false},
		{"abc", "ab", false},
		{"", "a", false},
		{"\xc4", "\xe4", false},
		{"É", "é", false},
		{"K", "\u212a", false}, // the sign of Kelvin
		{"S", "\u017f", false}, // the long s
	} {
		if got := octet.Same(c.a, c.b); got != c.want {
			t.Errorf("Same(%q, %q): %v", c.a, c.b, got)
		}
	}
}

var lineCases = []struct {
	text string
	want []string
}{
	{"", nil},
	{"a", []string{"a"}},
	{"a\r\n", []string{"a"}},
	{"\r\n", []string{""}},
	{"\r\n\r\n", []string{"", ""}},
	{"a\r\n\r\nb\n", []string{"a", "", "b\n"}},
	{"\n", []string{"\n"}},
	{"\r", []string{"\r"}},
	{"\n\r", []string{"\n\r"}},
	{"\r\r\n\n", []string{"\r", "\n"}},
	{"a\rb\nc\r\nd\r", []string{"a\rb\nc", "d\r"}},
	{"\x00\xff\r\n ", []string{"\x00\xff", " "}},
}

// P1.10
func TestLinesFromTheBeginningEachTime(t *testing.T) {
	for _, c := range lineCases {
		lines := octet.Lines(c.text)
		for range 3 {
			if got := slices.Collect(lines); !slices.Equal(got, c.want) {
				t.Errorf("Lines(%q): %q, not %q", c.text, got, c.want)
			}
		}
	}
}

// P1.10
func TestLinesStoppedEarly(t *testing.T) {
	for _, c := range lineCases {
		lines := octet.Lines(c.text)
		for most := 1; most <= len(c.want); most++ {
			var got []string
			lines(func(s string) bool {
				got = append(got, s)
				return len(got) < most
			})
			if !slices.Equal(got, c.want[:most]) {
				t.Errorf("Lines(%q) stopped at %d: %q", c.text, most, got)
			}
		}
		if got := slices.Collect(lines); !slices.Equal(got, c.want) {
			t.Errorf("Lines(%q) behind a stop: %q", c.text, got)
		}
	}
}

// P1.10
func TestLinesWithinThemselves(t *testing.T) {
	lines := octet.Lines("a\r\nb\r\n\r\nc")
	var got []string
	for x := range lines {
		for y := range lines {
			if y == "c" {
				break
			}
			for z := range lines {
				got = append(got, x+y+z)
			}
		}
	}
	var want []string
	for _, x := range []string{"a", "b", "", "c"} {
		for _, y := range []string{"a", "b", ""} {
			for _, z := range []string{"a", "b", "", "c"} {
				want = append(want, x+y+z)
			}
		}
	}
	if !slices.Equal(got, want) {
		t.Errorf("nested: %q, not %q", got, want)
	}
}

// P1.10
func TestLinesJoinedAreTheText(t *testing.T) {
	everyText([]string{"\r", "\n", "a"}, 7, func(s string) {
		lines := slices.Collect(octet.Lines(s))
		joined := strings.Join(lines, "\r\n")
		if joined != s && joined+"\r\n" != s {
			t.Errorf("Lines(%q): %q", s, lines)
		}
		for _, l := range lines {
			if strings.Contains(l, "\r\n") {
				t.Errorf("Lines(%q): the line %q", s, l)
			}
		}
		if n := len(lines); n > 0 && lines[n-1] == "" && !strings.HasSuffix(s, "\r\n") {
			t.Errorf("Lines(%q): an empty line at the end", s)
		}
	})
}

// P1.11
func TestWhole(t *testing.T) {
	for s, want := range map[string]bool{
		"":             true,
		"a":            true,
		"\r\n":         true,
		"a\r\n":        true,
		"\r\n\r\nb":    true,
		"\x00\xff\r\n": true,
		"\n":           false,
		"\r":           false,
		"a\r":          false,
		"a\nb":         false,
		"a\rb":         false,
		"\r\r\n":       false,
		"\r\n\n":       false,
		"\r\n\r":       false,
		"\n\r":         false,
		"\n\r\n":       false,
	} {
		if got := octet.Whole(s); got != want {
			t.Errorf("Whole(%q): %v", s, got)
		}
	}
	everyText([]string{"\r", "\n", "a"}, 7, func(s string) {
		want := !strings.ContainsAny(strings.ReplaceAll(s, "\r\n", ""), "\r\n")
		if got := octet.Whole(s); got != want {
			t.Errorf("Whole(%q): %v", s, got)
		}
	})
}

// answers is what all calls say of a text.
func answers(s string) string {
	b, e1 := octet.FromBase64(s)
	w, e2 := octet.Wire(s)
	n, e3 := octet.FromWire(s)
	parts := []string{
		octet.Lower(s), octet.Base64(s), b, octet.Loose64(s), octet.Quoted(s), octet.FromQuoted(s), w, n,
		string(rune('0'+e1)) + string(rune('0'+e2)) + string(rune('0'+e3)),
	}
	for l := range octet.Lines(s) {
		parts = append(parts, l)
	}
	if octet.Whole(s) && octet.Same(s, octet.Lower(s)) {
		parts = append(parts, "whole")
	}
	return strings.Join(parts, "|")
}

// P1.12
func TestNothingIsKept(t *testing.T) {
	texts := []string{"", "Zg==", "Zh==", "&AOk-", "é", "inbox", "INBOX/a", "a=3Db \r\nc", "a b=\r\n", "\xff", "\r\n\n", "R&-D", "a//b", strings.Repeat("z", 200), "&2D3eAA-"}
	first := make([]string, len(texts))
	for i, s := range texts {
		first[i] = answers(s)
	}
	r := rand.New(rand.NewPCG(1, 12))
	for range 20 {
		for _, i := range r.Perm(len(texts)) {
			if got := answers(texts[i]); got != first[i] {
				t.Errorf("%q: %q, then %q", texts[i], first[i], got)
			}
		}
	}
	var all sync.WaitGroup
	for range 8 {
		all.Go(func() {
			for i, s := range texts {
				if got := answers(s); got != first[i] {
					t.Errorf("%q beside other calls: %q, not %q", s, got, first[i])
				}
			}
		})
	}
	all.Wait()
}

// W1, and P1.12's last sentence: calls without a limit end, on long texts too.
func TestLongTexts(t *testing.T) {
	const n = 1 << 20
	for _, piece := range []string{" ", "=", "= ", "=\t\t", "\r", "\n", "\r\n", "Z", "\xff", "&", "=\r\n", " =\r\n", "=4"} {
		s := strings.Repeat(piece, n)
		for _, text := range []string{s, s + "x", "=" + s, "=" + s + "x"} {
			if octet.FromQuoted(octet.Quoted(text)) != text {
				t.Errorf("%q %d times: Quoted is not read back", piece, n)
			}
			if b, e := octet.FromBase64(octet.Base64(text)); b != text || e != 0 {
				t.Errorf("%q %d times: Base64 is not read back", piece, n)
			}
			octet.FromQuoted(text)
			octet.Loose64(text)
			octet.Whole(text)
			for range octet.Lines(text) {
			}
		}
	}
}
