package letter_test

import (
	"math/rand/v2"
	"regexp"
	"strings"
	"testing"

	"postbag/letter"
)

// wantRule is a rule as an expression: what it matches is cut off, or all but its first group.
type wantRule struct {
	form   *regexp.Regexp
	marked bool
}

// wantRules are the document's, in its order; the fifth needs something behind the blob.
var wantRules = []wantRule{
	{regexp.MustCompile(`(?s)\A(.*) \z`), false},
	{regexp.MustCompile(`(?is)\A(.*)\(fwd\)\z`), true},
	{regexp.MustCompile(`(?s)\A (.*)\z`), false},
	{regexp.MustCompile(`(?is)\A(?:\[[^\[\]]*\] *)*(?:re|fwd|fw) *(?:\[[^\[\]]*\] *)?:(.*)\z`), true},
	{regexp.MustCompile(`(?s)\A\[[^\[\]]*\] *([^ ].*)\z`), false},
	{regexp.MustCompile(`(?is)\A\[fwd:(.*)\]\z`), true},
}

var formOfSpaces = regexp.MustCompile(`[ \t\r\n]+`)

// wantBase applies one rule at a time, each time from the first one on.
func wantBase(subject string) (string, bool) {
	t, marked := formOfSpaces.ReplaceAllString(runes(wantWords(subject)), " "), false
	for i := 0; i < len(wantRules); i++ {
		if m := wantRules[i].form.FindStringSubmatch(t); m != nil {
			t, marked = m[1], marked || wantRules[i].marked
			i = -1
		}
	}
	return bytesOf(t), marked
}

// lookAtBase: P5.8, P5.12.
func lookAtBase(t *testing.T, subject string) {
	t.Helper()
	base, marked := letter.Base(subject)
	if want, wantMarked := wantBase(subject); base != want || marked != wantMarked {
		t.Errorf("Base(%.200q): %.200q, %v, not %.200q, %v", subject, base, marked, want, wantMarked)
	}
	if again, is := letter.Base(base); !strings.Contains(base, "=?") && (again != base || is) {
		t.Errorf("Base(%.200q): %.200q, whose base is %.200q, %v", subject, base, again, is)
	}
	if answered, is := letter.Base("Re: " + subject); answered != base || !is {
		t.Errorf("Base of an answer to %.200q: %.200q, %v, not %.200q", subject, answered, is, base)
	}
}

type baseRow struct {
	subject, base string
	marked        bool
}

func tellBases(t *testing.T, rows []baseRow) {
	t.Helper()
	for _, c := range rows {
		if base, marked := letter.Base(c.subject); base != c.base || marked != c.marked {
			t.Errorf("Base(%q): %q, %v, not %q, %v", c.subject, base, marked, c.base, c.marked)
		}
		lookAtBase(t, c.subject)
	}
}

// P5.8: the examples, and each rule by itself.
func TestBase(t *testing.T) {
	tellBases(t, []baseRow{
		{"Re: [list]  Fwd[2] : hello (fwd) ", "hello", true},
		{"[list] hi", "hi", false},
		{"[list]", "[list]", false},
		{"[Fwd: Re: a]", "a", true},
		{"re", "re", false},
		{"Re:", "", true},
		{"=?utf-8?q?Re=3A?= x", "x", true},
		{"", "", false},
		{"a", "a", false},
		// 1 and 3: space at the ends, of all kinds, and within
		{" ", "", false},
		{"a ", "a", false},
		{" a", "a", false},
		{"\t\r\n a \t\r\n b\r\r\n\n", "a b", false},
		{"a \x0b b\u00a0", "a \x0b b\u00a0", false},
		// 2
		{"(fwd)", "", true},
		{"a(fwd)", "a", true},
		{"a (FwD) (fwd)(fWd) ", "a", true},
		{"(fwd) a", "(fwd) a", false},
		{"a (fwd", "a (fwd", false},
		{"fwd)", "fwd)", false},
		{"a (fwd) b", "a (fwd) b", false},
		{"a ( fwd)", "a ( fwd)", false},
		{"a (fw)", "a (fw)", false},
		// 4
		{"re:a", "a", true},
		{"RE: a", "a", true},
		{"fw:a", "a", true},
		{"Fw: a", "a", true},
		{"fwd:a", "a", true},
		{"FWD: a", "a", true},
		{"re: re: fw: a", "a", true},
		{"re : a", "a", true},
		{"re\t\r\n: a", "a", true},
		{"re[1]:a", "a", true},
		{"re [1]:a", "a", true},
		{"re[1] :a", "a", true},
		{"re [1] : a", "a", true},
		{"re[]:a", "a", true},
		{"re[1][2]:a", "re[1][2]:a", false},
		{"re [1 : a", "re [1 : a", false},
		{"re [a[b] : a", "re [a[b] : a", false},
		{"re] : a", "re] : a", false},
		{"re a", "re a", false},
		{"re a: b", "re a: b", false},
		{"r: a", "r: a", false},
		{"fwdd: a", "fwdd: a", false},
		{"rea: b", "rea: b", false},
		{"are: b", "are: b", false},
		{"f: b", "f: b", false},
		{": a", ": a", false},
		{"[a]re: b", "b", true},
		{"[a] [b]  [] fw[c]: b", "b", true},
		{"[a] : b", ": b", false},
		{"re::a", ":a", true},
		{"re: :a", ":a", true},
		// 5
		{"[a]b", "b", false},
		{"[a] b", "b", false},
		{"[a] [b] c", "c", false},
		{"[]c", "c", false},
		{"[a][b]", "[b]", false},
		{"[a] [b] [c]", "[c]", false},
		{"[] []", "[]", false},
		{"[a] ", "[a]", false},
		{"[a", "[a", false},
		{"[a[b] c", "[a[b] c", false},
		{"[[a]] b", "[[a]] b", false},
		{"[a]] b", "] b", false},
		{"a [b]", "a [b]", false},
		{"] a", "] a", false},
		{"[a: b] c", "c", false},
		{"[\xff\x00é] c", "c", false},
		// 6
		{"[fwd:]", "", true},
		{"[fwd: a]", "a", true},
		{"[FWD:a]", "a", true},
		{"[fwd: a", "[fwd: a", false},
		{"[fwd:", "[fwd:", false},
		{"fwd: a]", "a]", true},
		{"[fwd a]", "[fwd a]", false},
		{"[fw: a]", "[fw: a]", false},
		{"[re: a]", "[re: a]", false},
		{"[fwd: [fwd: a]]", "a", true},
		{"[fwd: [fwd: a]", "[fwd: a", true},
		{"[fwd: a] b", "b", false},
		{"[fwd: a [b]", "a [b", true},
		{"[fwd: a] [b]", "[b]", false},
		{"[fwd: [b]", "[b", true},
		{"[fwd : a]", "[fwd : a]", false},
	})
}

// P5.8: a rule ahead of another one, and one that makes room for an earlier one.
func TestRulesInTheirOrder(t *testing.T) {
	tellBases(t, []baseRow{
		{"re: (fwd)", "", true},
		{"re:(fwd) ", "", true},
		{"[a] (fwd)", "[a]", true}, // without its end the blob is all there is
		{"[a](fwd) ", "[a]", true},
		{"[a] [b] (fwd)", "[b]", true},
		{" (fwd) ", "", true},
		{"[a] re: [b]", "[b]", true},
		{"[a] re: [b] c", "c", true},
		{"[fwd: re: (fwd)]", "", true},
		{"[fwd: a (fwd)]", "a", true},
		{"[fwd: a ] (fwd)", "a", true},
		{"[fwd: [a] b]", "b", true},
		{"[fwd: [a]]", "[a]", true},
		{"[a] [fwd: b]", "b", true}, // the blobs go, and of the last one, which is all, the sixth rule takes the brackets
		{"[fwd: b] [a]", "[a]", false},
		{"re: [fwd: a]", "a", true},
		{"re: [fwd: [l] fw: a (fwd) ] (fwd) ", "a", true},
		{"[l] re[2]: [m] fwd : [fwd: re: [n] x (fwd)]", "x", true},
		{"re: [a] re: [b] re: c", "c", true},
		{"[re: a] b", "b", false},
		{"[a]  re  [b]  :  c", "c", true},
		{"[fwd:  ]", "", true},
		{"[fwd: (fwd)](fwd)", "", true},
	})
}

// P5.8: encoded words bring a rule's text; what they bring is not read again.
func TestBaseOfEncodedWords(t *testing.T) {
	tellBases(t, []baseRow{
		{"=?utf-8?q?re:_a?=", "a", true},
		{"=?utf-8?b?UmU6IGE=?=", "a", true},
		{"=?utf-8?q?re?=: a", "a", true},
		{"=?utf-8?q?r?= =?utf-8?q?e:?= a", "a", true},
		{"r=?utf-8?q?e?=:a", "a", true},
		{"a =?utf-8?q?(fwd)?=", "a", true},
		{"=?utf-8?q?=5Bx=5D?= a", "a", false},
		{"=?utf-8?q?[fwd:?= a]", "a", true},
		{"=?utf-8?q?_=09=0D=0A?= a =?utf-8?q?__?= b", "a b", false},
		{"=?iso-8859-1?q?=E9?= a", "é a", false},
		{"=?utf-8?q?=FF?= a", "\xff a", false},
		{"=?x?q?re:?= a", "=?x?q?re:?= a", false},
		{"re: =?utf-8?q??=", "", true},
		{"re: =?utf-8?q?=3D=3Futf-8=3Fq=3Fa=3F=3D?=", "=?utf-8?q?a?=", true},
	})
}

// P5.8: re, fwd and fw in each case, with and without blobs and blanks.
func TestVerbsInEachCase(t *testing.T) {
	for _, verb := range []string{"re", "fw", "fwd"} {
		for _, v := range cases(verb) {
			for _, ahead := range []string{"", " ", "[x]", "[x] ", "[x] [] "} {
				for _, behind := range []string{":", " :", "[1]:", " [1] :", "[]\t\t:"} {
					tellBases(t, []baseRow{{ahead + v + behind + " s", "s", true}})
				}
			}
		}
	}
	for _, tail := range cases("(fwd)") {
		tellBases(t, []baseRow{{"s" + tail, "s", true}})
	}
	for _, head := range cases("[fwd:") {
		tellBases(t, []baseRow{{head + "s]", "s", true}})
	}
}

// P5.8, P5.12: each byte in each place.
func TestBaseOfEachByte(t *testing.T) {
	for c := range 256 {
		b := string([]byte{byte(c)})
		for _, subject := range []string{b, b + "a", "a" + b, "a" + b + b + "a", "[" + b + "]a", "[a]" + b + "b", "re" + b + ":a", "re:" + b, "re[" + b + "]:a", b + "e:a", "r" + b + ":a", "fw" + b + ":a", "[fw" + b + ":a]", "a(fw" + b + ")", "[fwd:" + b + "]", "[fwd:a]" + b} {
			lookAtBase(t, subject)
		}
	}
}

// P5.8, P5.12: against rules of another make.
func TestBaseOfManySubjects(t *testing.T) {
	r := rand.New(rand.NewPCG(5, 8))
	for range 40000 {
		lookAtBase(t, pieced(r, 12, "re", "Re:", "fw", "FWD", ":", ":", "[", "]", "[", "]", "[l]", "[] ", "[fwd:", "(fwd)", "(Fwd", ")", " ", " ", "\t", "\r\n", "a", "b c", "\xff", "é", "=?utf-8?q?re:?=", "=?utf-8?q?=5B?=", "=?", "?="))
	}
}

// P5.13: rules that find something many thousand times over.
func TestLongSubjects(t *testing.T) {
	const n = 200000
	many := func(s string) string { return strings.Repeat(s, n) }
	for _, c := range []baseRow{
		{many("re:") + "a", "a", true},
		{many("re: ") + "a" + many(" (fwd)"), "a", true},
		{many("[]"), "[]", false},
		{many("[x] ") + "a", "a", false},
		{many("[x] ") + "re: a", "a", true},
		{many("[x] ") + "re a", "re a", false},
		{many("[x] re:") + "a", "a", true},
		{many("[fwd:") + "a" + many("]"), "a", true},
		{many("[x][fwd:") + "a" + many("]"), "a", true},
		{many("re:[fwd:") + "a" + many("]"), "a", true},
		{many("[fwd: ") + "a" + many("(fwd) ]"), "a", true},
		{many("["), many("["), false},
		{many("]"), many("]"), false},
		{many("[a") + many("]"), many("[a") + many("]"), false},
		{many(" \t") + "a" + many("\r\n"), "a", false},
		{many("a \t"), strings.TrimSuffix(many("a "), " "), false},
		{"re" + many(" ") + "[" + many("x") + "]" + many(" ") + ":a", "a", true},
		{"[" + many("x") + many("(fwd)"), "[" + many("x"), true},
		{many("(fwd)"), "", true},
		{many("=?utf-8?q?re:?= ") + "a", "a", true},
	} {
		if base, marked := letter.Base(c.subject); base != c.base || marked != c.marked {
			t.Errorf("Base(%.60q..): %.60q.., %d bytes, %v", c.subject, base, len(base), marked)
		}
	}
}
