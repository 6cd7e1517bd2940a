package thread_test

import (
	"math/rand/v2"
	"regexp"
	"strconv"
	"strings"
	"testing"

	"postbag/api"
	"postbag/thread"
)

// slowLine writes each thread as a text, by the forms of the document.
func slowLine(twigs []api.Twig) string {
	if !mayBeTold(twigs, 1) {
		return ""
	}
	return slowBrackets(twigs)
}

func slowBrackets(twigs []api.Twig) string {
	s := ""
	for _, t := range twigs {
		s += "(" + slowThread(t) + ")"
	}
	return s
}

func slowThread(t api.Twig) string {
	rest := slowBrackets(t.Kids)
	if len(t.Kids) == 1 {
		rest = slowThread(t.Kids[0])
	}
	if t.Uid == 0 {
		return rest
	}
	return strings.TrimSuffix(strconv.Itoa(t.Uid)+" "+rest, " ")
}

func mayBeTold(twigs []api.Twig, deep int) bool {
	for _, t := range twigs {
		isNone := t.Uid == 0
		if t.Uid < 0 || t.Uid > 4294967295 || deep > 64 || isNone && len(t.Kids) < 2 || isNone && deep > 1 && len(twigs) == 1 || !mayBeTold(t.Kids, deep+1) {
			return false
		}
	}
	return true
}

// inBrackets is a thread in brackets all of whose inner brackets were made T.
var inBrackets = regexp.MustCompile(`\((([1-9][0-9]* )*[1-9][0-9]*|([1-9][0-9]* )*TT+)\)`)
var inDigits = regexp.MustCompile(`[0-9]+`)

// isLine tells whether a text is a line, but for how deep it is: brackets are taken out from within.
func isLine(s string) bool {
	for _, digits := range inDigits.FindAllString(s, -1) {
		if n, err := strconv.ParseUint(digits, 10, 64); err != nil || n > 4294967295 {
			return false
		}
	}
	if strings.Contains(s, "T") {
		return false
	}
	for was := ""; was != s; {
		was, s = s, inBrackets.ReplaceAllString(s, "T")
	}
	return strings.Trim(s, "T") == ""
}

// lookAtRead: ReadLine tells what s is; only for texts that are not too deep.
func lookAtRead(t *testing.T, s string) {
	t.Helper()
	twigs, e := thread.ReadLine(s)
	if !isLine(s) {
		if e != api.ErrThread || twigs != nil {
			t.Errorf("ReadLine(%q): %s, %d, and it is no line", s, shownTwigs(twigs), e)
		}
		return
	}
	if e != api.OK || slowLine(twigs) != s || thread.Line(twigs) != s {
		t.Errorf("ReadLine(%q): %s, %d", s, shownTwigs(twigs), e)
	}
}

// row is twigs that lie n deep, each the only one of the other's.
func row(n int) api.Twig {
	t := twig(1)
	for range n - 1 {
		t = twig(1, t)
	}
	return t
}

// bush is twigs that lie n deep, all with the Uid 0 but the lowest ones.
func bush(n int) api.Twig {
	t := twig(1)
	for range n - 1 {
		t = twig(0, t, twig(2))
	}
	return t
}

// P8.7: lines, and twigs that may not be told.
func TestLine(t *testing.T) {
	for _, c := range []struct {
		twigs []api.Twig
		want  string
	}{
		{nil, ""}, {[]api.Twig{}, ""},
		{[]api.Twig{twig(1)}, "(1)"},
		{[]api.Twig{twig(1, twig(2)), twig(0, twig(3), twig(4))}, "(1 2)((3)(4))"},
		{[]api.Twig{twig(1, twig(2), twig(3, twig(4)))}, "(1 (2)(3 4))"},
		{[]api.Twig{twig(1, twig(2, twig(3)))}, "(1 2 3)"},
		{[]api.Twig{twig(1, twig(2, twig(3), twig(4)))}, "(1 2 (3)(4))"},
		{[]api.Twig{twig(0, twig(1), twig(2))}, "((1)(2))"},
		{[]api.Twig{twig(0, twig(0, twig(1), twig(2)), twig(3))}, "(((1)(2))(3))"},
		{[]api.Twig{twig(0, twig(3), twig(0, twig(1), twig(2)))}, "((3)((1)(2)))"},
		{[]api.Twig{twig(1, twig(0, twig(2), twig(3)), twig(4))}, "(1 ((2)(3))(4))"},
		{[]api.Twig{twig(7), twig(7), twig(7, twig(7))}, "(7)(7)(7 7)"},
		{[]api.Twig{twig(api.MaxNumber)}, "(4294967295)"},
		{[]api.Twig{twig(api.MaxNumber, twig(api.MaxNumber-1))}, "(4294967295 4294967294)"},
		// no uids
		{[]api.Twig{twig(api.MaxNumber + 1)}, ""}, {[]api.Twig{twig(most)}, ""}, {[]api.Twig{twig(-1)}, ""}, {[]api.Twig{twig(least)}, ""},
		{[]api.Twig{twig(-1, twig(1), twig(2))}, ""}, {[]api.Twig{twig(api.MaxNumber+1, twig(1), twig(2))}, ""},
		{[]api.Twig{twig(1, twig(2), twig(-3))}, ""}, {[]api.Twig{twig(1), twig(2), twig(-3)}, ""}, {[]api.Twig{twig(1, twig(-2))}, ""},
		// 0 with none, with one, as the only kid
		{[]api.Twig{twig(0)}, ""}, {[]api.Twig{twig(1), twig(0)}, ""}, {[]api.Twig{twig(0, twig(1))}, ""},
		{[]api.Twig{twig(1, twig(0), twig(2))}, ""}, {[]api.Twig{twig(1, twig(0, twig(2)), twig(3))}, ""},
		{[]api.Twig{twig(1, twig(0, twig(2), twig(3)))}, ""}, {[]api.Twig{twig(0, twig(0, twig(2), twig(3)))}, ""},
		{[]api.Twig{twig(9), twig(1, twig(2), twig(3, twig(0, twig(4), twig(5))))}, ""},
		// as deep as may be, and deeper
		{[]api.Twig{row(64)}, "(1" + strings.Repeat(" 1", 63) + ")"},
		{[]api.Twig{row(65)}, ""}, {[]api.Twig{twig(1), row(65)}, ""}, {[]api.Twig{twig(5, twig(6), row(64))}, ""},
		{[]api.Twig{twig(5, twig(6), row(63))}, "(5 (6)(1" + strings.Repeat(" 1", 62) + "))"},
		{[]api.Twig{bush(64)}, strings.Repeat("(", 64) + "1)" + strings.Repeat("(2))", 63)},
		{[]api.Twig{bush(65)}, ""}, {[]api.Twig{row(1 << 16)}, ""}, {[]api.Twig{bush(1 << 16)}, ""},
	} {
		if got := thread.Line(c.twigs); got != c.want {
			t.Errorf("Line(%.200s): %q, not %q", shownTwigs(c.twigs), got, c.want)
		}
	}
}

// W1: a list that has itself among its Kids ends, too.
func TestLineAround(t *testing.T) {
	around := []api.Twig{{Uid: 1}, {Uid: 2}}
	around[1].Kids = around
	if got := thread.Line(around); got != "" {
		t.Errorf("%q", got)
	}
	around[0].Kids = around
	if got := thread.Line(around); got != "" {
		t.Errorf("%q", got)
	}
	if got := thread.Line(around[:1]); got != "" {
		t.Errorf("%q", got)
	}
}

// someTwigs is random twigs; some of them may not be told.
func someTwigs(r *rand.Rand, deep int) []api.Twig {
	l := make([]api.Twig, oneOf(r, 0, 1, 1, 2, 2, 3))
	for i := range l {
		l[i].Uid = oneOf(r, 1, 2, 30, api.MaxNumber)
		if deep > 0 {
			l[i].Kids = someTwigs(r, deep-1)
		}
		if len(l[i].Kids) > 1 && r.IntN(3) == 0 || r.IntN(40) == 0 {
			l[i].Uid = 0
		}
		if r.IntN(100) == 0 {
			l[i].Uid = oneOf(r, -1, api.MaxNumber+1)
		}
	}
	return l
}

// P8.7, P8.8, W6: random twigs, against a slower writer.
func TestLineRandom(t *testing.T) {
	r := rand.New(rand.NewPCG(8, 30))
	told := 0
	for range 20000 {
		twigs := roomyTwigs(someTwigs(r, r.IntN(5)))
		before := shownTwigs(twigs)
		want := slowLine(twigs)
		got := thread.Line(twigs)
		if got != want || shownTwigs(twigs) != before {
			t.Fatalf("Line(%s): %q, not %q", before, got, want)
		}
		if got == "" {
			continue
		}
		told++
		again, e := thread.ReadLine(got)
		if e != api.OK || shownTwigs(again) != before {
			t.Fatalf("ReadLine(%q): %s, %d", got, shownTwigs(again), e)
		}
	}
	if told < 5000 {
		t.Errorf("only %d were told", told)
	}
}

// P8.8: lines, and what is none.
func TestReadLine(t *testing.T) {
	for _, c := range []struct {
		s    string
		want []api.Twig
	}{
		{"", nil},
		{"(1)", []api.Twig{twig(1)}},
		{"(1)(2)", []api.Twig{twig(1), twig(2)}},
		{"(1 (2)(3 4))", []api.Twig{twig(1, twig(2), twig(3, twig(4)))}},
		{"(1 2)((3)(4))", []api.Twig{twig(1, twig(2)), twig(0, twig(3), twig(4))}},
		{"(1 ((2)(3))(4))", []api.Twig{twig(1, twig(0, twig(2), twig(3)), twig(4))}},
		{"(4294967295)", []api.Twig{twig(api.MaxNumber)}},
		{"(10 203)", []api.Twig{twig(10, twig(203))}},
		{"(1 2 (3)(4)(5))", []api.Twig{twig(1, twig(2, twig(3), twig(4), twig(5)))}},
	} {
		got, e := thread.ReadLine(c.s)
		if e != api.OK || shownTwigs(got) != shownTwigs(c.want) {
			t.Errorf("ReadLine(%q): %s, %d", c.s, shownTwigs(got), e)
		}
	}
	for _, s := range []string{
		"(1)(0)", "((1))", "(01)", "()", "(1", "1", ")", "(", "(1))", "((1)", "(1 )", "( 1)", "(1  2)", "(1 (2))", "(1 ((2)(3)))", "(((1)(2)))", "(0 (1)(2))", "(0 1)", "(1 0)",
		"(4294967296)", "(4294967300)", "(18446744073709551617)", "(42949672951)", "(" + strings.Repeat("9", 60000) + ")", "(" + strings.Repeat("0", 60000) + ")", "(00)", "(1 02)", "(-1)", "(+1)", "(1.0)", "(a)", "(\u0661)",
		" (1)", "(1) ", "(1) (2)", "(1)x", "(1)\r\n", "(1)1", "(1(2)(3))", "(1 (2) (3))", "(1 (2)(3)4)", "(1 (2)(3) 4)", "((1) (2))", "( (1)(2))", "((1)(2) )", "(1 2 )", "(1,2)", "(1\t2)", "[1]", "(1 2))(", "(1 (2)()", "(1 (2)())", "\x00",
		strings.Repeat("(", 65536), strings.Repeat("(1 ", 20000), strings.Repeat("((1)", 16384), strings.Repeat("(1)", 21844) + "(1",
	} {
		if got, e := thread.ReadLine(s); e != api.ErrThread || got != nil {
			t.Errorf("ReadLine(%.60q): %.100s, %d", s, shownTwigs(got), e)
		}
	}
}

// P8.7, P8.8: as deep as may be, and deeper; as long as may be, and longer.
func TestReadLineBounds(t *testing.T) {
	for _, c := range []struct {
		s string
		e api.Errno
	}{
		{"(1" + strings.Repeat(" 1", 63) + ")", api.OK},
		{"(1" + strings.Repeat(" 1", 64) + ")", api.ErrThread},
		{"(5 (6)(1" + strings.Repeat(" 1", 62) + "))", api.OK},
		{"(5 (6)(1" + strings.Repeat(" 1", 63) + "))", api.ErrThread},
		{strings.Repeat("(", 64) + "1)" + strings.Repeat("(2))", 63), api.OK},
		{strings.Repeat("(", 65) + "1)" + strings.Repeat("(2))", 64), api.ErrThread},
		{strings.Repeat("(1)", 21844) + "(12)", api.OK},
		{strings.Repeat("(1)", 21844) + "(123)", api.ErrLong},
		{strings.Repeat("(1)", 21844) + "(1x)", api.ErrThread},
		{strings.Repeat("x", 65536), api.ErrThread},
		{strings.Repeat("x", 65537), api.ErrLong},
		{strings.Repeat("(", 1000000), api.ErrLong},
	} {
		twigs, e := thread.ReadLine(c.s)
		if e != c.e || e != api.OK && twigs != nil || e == api.OK && thread.Line(twigs) != c.s {
			t.Errorf("ReadLine(%.40q, %d bytes): %d, not %d", c.s, len(c.s), e, c.e)
		}
	}
}

// P8.8: all texts of few bytes.
func TestReadLineShort(t *testing.T) {
	texts := []string{""}
	for from := 0; len(texts[from]) < 8; from++ {
		for _, b := range []string{"(", ")", "1", " ", "0"} {
			texts = append(texts, texts[from]+b)
		}
	}
	for _, s := range texts {
		// texts without brackets at their ends are no lines: they need not be looked at by a pattern
		if s != "" && (s[0] != '(' || s[len(s)-1] != ')') {
			if twigs, e := thread.ReadLine(s); e != api.ErrThread || twigs != nil {
				t.Errorf("ReadLine(%q): %d", s, e)
			}
			continue
		}
		lookAtRead(t, s)
	}
}

// P8.8: lines with one byte more, less, or another.
func TestReadLineTouched(t *testing.T) {
	r := rand.New(rand.NewPCG(8, 31))
	bytes := []string{"(", ")", " ", "0", "1", "9", "", "()", ")(", "  ", "x", "T", "\x00", "\xff"}
	for range 120 {
		s := thread.Line(someTwigs(r, 4))
		for at := range len(s) {
			for _, b := range bytes {
				lookAtRead(t, s[:at]+b+s[at:])
				lookAtRead(t, s[:at]+b+s[at+1:])
			}
		}
	}
	for b := range 256 {
		for _, form := range []string{"(1?2)", "?1)", "(1?", "(?)", "(1)?", "(1 ?2)(3)(4))"} {
			lookAtRead(t, strings.Replace(form, "?", string([]byte{byte(b)}), 1))
		}
	}
}

// P8.8, P8.12, W6.
func TestReadLineMemory(t *testing.T) {
	r := rand.New(rand.NewPCG(8, 32))
	for range 2000 {
		s := thread.Line(someTwigs(r, 4))
		a, _ := thread.ReadLine(s)
		b, _ := thread.ReadLine(s)
		lookAtRooms(t, "ReadLine", a, b)
		scribbleTwigs(a)
		c, e := thread.ReadLine(s)
		if e != api.OK || thread.Line(b) != s || thread.Line(c) != s {
			t.Fatalf("ReadLine(%q): %s, then %s", s, shownTwigs(b), shownTwigs(c))
		}
	}
}

// P8.7, W1: a long line.
func TestLineLong(t *testing.T) {
	got := thread.Line(times(300000, twig(1, twig(2), twig(3))))
	if got != strings.Repeat("(1 (2)(3))", 300000) {
		t.Errorf("%d bytes", len(got))
	}
}
