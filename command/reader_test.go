package command_test

import (
	"math/rand/v2"
	"strconv"
	"strings"
	"testing"

	"postbag/api"
	"postbag/command"
)

// fed holds a reader to what it tells behind each piece; then all of it at once, and byte by byte, to the same in all.
func fed(t *testing.T, rows ...[]string) {
	t.Helper()
	for _, row := range rows {
		r := command.New()
		var all, want []string
		for i := 0; i < len(row); i += 2 {
			all, want = append(all, row[i]), append(want, strings.Fields(row[i+1])...)
			r.Feed(row[i])
			if s := told(r); s != row[i+1] {
				t.Errorf("behind %.60q: %q, not %q", row[i], s, row[i+1])
			}
			if s := told(r); s != "" {
				t.Errorf("behind %.60q, once more: %q", row[i], s)
			}
		}
		whole, bytes := command.New(), &command.Reader{}
		whole.Feed(strings.Join(all, ""))
		if s := told(whole); s != strings.Join(want, " ") {
			t.Errorf("%.60q at once: %q, not %q", all, s, want)
		}
		var list []string
		for _, c := range []byte(strings.Join(all, "")) {
			bytes.Feed(string([]byte{c}))
			if s := told(bytes); s != "" {
				list = append(list, s)
			}
		}
		if s := strings.Join(list, " "); s != strings.Join(want, " ") {
			t.Errorf("%.60q byte by byte: %q, not %q", all, s, want)
		}
	}
}

// P14.4, P14.7: lines and literals of both kinds; each input is told with its last byte, and not ahead of it.
func TestLines(t *testing.T) {
	fed(t,
		[]string{"a NO", "", "OP\r", "", "\nb X\r\n", "a:2 bad:b:140", "", ""},
		[]string{"a NOOP\r", "", "\n", "a:2"},
		[]string{"", "", "a", "", " NOOP", "", "\r", "", "\n", "a:2", "\r", "", "\n", "bad::141"},
		[]string{"\r\n\r\n", "bad::141 bad::141", "a\r\n", "bad:a:140", "a \r\n", "bad:a:140", " a\r\n", "bad::141", "+ NOOP\r\n", "bad::141"},
		[]string{"a NOOP\r\nb LOGOUT\r\nc NOOP\r\n", "a:2 b:3 c:2"},
		[]string{"a LOGIN {3}\r", "", "\n", "+", "joe {1+}\r\nx\r", "", "\n", "a:4"},
		[]string{"a LOGIN {3}\r\njoe {1}\r\nx\r\nb NOOP\r\n", "+ + a:4 b:2"},
		[]string{"a LOGIN {3}\r\n", "+", "jo", "", "e", "", " {1}\r\n", "+", "x", "", "\r", "", "\n", "a:4"},
		[]string{"a LOGIN {0}\r\n", "+", " {0+}\r\n", "", "\r", "", "\n", "a:4"},
		[]string{"a LOGIN {0+}\r\n {0}\r\n", "+", "\r\n", "a:4"},
		[]string{"a LOGIN {003+}\r\njoe {00}\r\n", "+", "\r\n", "a:4"},
		[]string{"a LOGIN {2}\r\n", "+", "\r\n", "", " {2+}\r\n", "", "\r\n\r", "", "\n", "a:4"},
		[]string{"a CREATE {4}\r\n{3}\r", "+", "\n", "", "\r\n", "bad:a:142"}, // the CR is the literal's: so the LF stands alone
		[]string{"a CREATE {6+}\r\nx {1}\r", "", "\r\n", "a:7"},
		[]string{"a LOGIN {3}\r\njoe\r\nb NOOP\r\n", "+ bad:a:140 b:2"},
		[]string{"a CREATE {3+}\r\njoe\r\n", "a:7"},
		[]string{"a CREATE {3+}\r\njoe{3+}\r\nxyz\r\nb NOOP\r\n", "bad:a:140 b:2"},
		[]string{"a CREATE {3+}\r\njoe}\r\nb NOOP\r\n", "bad:a:140 b:2"},
		[]string{"a CREATE {3+}\r\njoe \"{1}\r\nb NOOP\r\n", "bad:a:140 b:2"},
		[]string{"a NOOP \"{3}\r\nb NOOP\r\n", "bad:a:140 b:2"},
		[]string{"a NOOP \"{3+}\r\nb NOOP\r\n", "bad:a:140 b:2"},
		[]string{"a NOOP \"\\\"{3}\r\nb NOOP\r\n", "bad:a:140 b:2"},
		[]string{"a NOOP \"\\\\\"{3}\r\n", "+", "xyz\r\n", "bad:a:140"},
		[]string{"a CREATE \"\"\"\"{1}\r\nx\r\n", "+ bad:a:140"},
		[]string{"a CREATE \\\"{1}\r\nb NOOP\r\n", "bad:a:140 b:2"},
		[]string{"a CREATE {3} \r\nb NOOP\r\n", "bad:a:140 b:2"},
		[]string{"a CREATE {}\r\nb NOOP\r\n", "bad:a:140 b:2"},
		[]string{"a CREATE {+}\r\nb NOOP\r\n", "bad:a:140 b:2"},
		[]string{"a CREATE {1++}\r\nb NOOP\r\n", "bad:a:140 b:2"},
		[]string{"a CREATE {-1}\r\nb NOOP\r\n", "bad:a:140 b:2"},
		[]string{"a CREATE {x}\r\nb NOOP\r\n", "bad:a:140 b:2"},
		[]string{"a CREATE }{1}\r\nx\r\nb NOOP\r\n", "+ bad:a:140 b:2"},
		[]string{"{1}\r\na NOOP\r\nb NOOP\r\n", "+ bad::141 b:2"},
		[]string{"a{1+}\r\nx NOOP\r\nb NOOP\r\n", "bad::141 b:2"},
		[]string{"a {1+}\r\nx NOOP\r\nb NOOP\r\n", "bad:a:140 b:2"},
		[]string{"+ {1}\r\nx\r\nb NOOP\r\n", "+ bad::141 b:2"},
	)
	r := command.New()
	r.Feed("a APPEND {1}\r\nx (\\Seen) {12+}\r\nb NOOP\r\n\r\n\r\n\r\nc NOOP\r\n")
	want := api.Command{Tag: "a", Verb: api.VerbAppend, Name: "x", Flags: []string{"\\Seen"}, Body: "b NOOP\r\n\r\n\r\n"}
	if in, is := r.Next(); !is || short(in) != "+" {
		t.Errorf("%+v", in)
	}
	if in, is := r.Next(); !is || short(in) != "a:15" || shown(in.Command) != shown(want) {
		t.Errorf("%+v", in)
	}
	if s := told(r); s != "c:2" {
		t.Errorf("%q", s)
	}
}

// P14.4, P14.5: bytes that may not be there, in the first piece of line and in later ones, and in literals.
func TestWrongBytes(t *testing.T) {
	for _, wrong := range []string{"\x00", "\r", "\n", "\n\r", "\r\r", "\n\n", "\r\x00", "\x00\x00"} {
		fed(t,
			[]string{"a NO" + wrong + "OP\r", "", "\n", "bad:a:142", "b NOOP\r\n", "b:2"},
			[]string{"a NOOP" + wrong + "\r\n", "bad:a:142", "b NOOP\r\n", "b:2"},
			[]string{wrong + "a NOOP\r\n", "bad::142", "b NOOP\r\n", "b:2"},
			[]string{"a" + wrong + " NOOP\r\n", "bad::142", "b NOOP\r\n", "b:2"},
			[]string{wrong + "\r\n", "bad::142", "b NOOP\r\n", "b:2"},
			[]string{"a \"" + wrong + "\"\r\n", "bad:a:142", "b NOOP\r\n", "b:2"},
			[]string{"a " + wrong + "{5}\r\n", "bad:a:142", "b NOOP\r\n", "b:2"},
			[]string{"a " + wrong + "{2+}\r\n", "", "\r\n", "", "\r\n", "bad:a:142", "b NOOP\r\n", "b:2"},
			[]string{"a " + wrong + "{2+}\r\nxy{3}\r\n", "bad:a:142", "b NOOP\r\n", "b:2"},
			[]string{"a CREATE {1}\r\n", "+", "x" + wrong + "\r\n", "bad:a:142", "b NOOP\r\n", "b:2"},
			[]string{"a LOGIN {1+}\r\nx" + wrong + " {1}\r\n", "bad:a:142", "b NOOP\r\n", "b:2"},
			[]string{"a LOGIN {1+}\r\nx" + wrong + " {1+}\r\n", "", "y\r", "", "\n", "bad:a:142", "b NOOP\r\n", "b:2"},
			[]string{"a LOGIN {1+}\r\nx {1+}\r\ny" + wrong + "\r\n", "bad:a:142", "b NOOP\r\n", "b:2"},
		)
		want := "a:7"
		if strings.Contains(wrong, "\x00") {
			want = "bad:a:143"
		}
		n := strconv.Itoa(len(wrong))
		fed(t,
			[]string{"a CREATE {" + n + "+}\r\n" + wrong, "", "\r\n", want, "b NOOP\r\n", "b:2"},
			[]string{"a CREATE {" + n + "}\r\n" + wrong, "+", "\r\n", want, "b NOOP\r\n", "b:2"},
		)
	}
	// A spoilt command ends at a {n}, whichever it is; and what spoilt it first is told.
	fed(t,
		[]string{"a LOGIN {1+}\r\n\x00 x\r\n", "bad:a:143"},
		[]string{"a LOGIN {1+}\r\n\x00 {1}\r\n", "bad:a:143", "b NOOP\r\n", "b:2"},
		[]string{"a LOGIN {1}\r\n\x00 {1}\r\n", "+ bad:a:143", "b NOOP\r\n", "b:2"},
		[]string{"a LOGIN {1+}\r\n\x00 {1+}\r\n", "", "x\r\n", "bad:a:143", "b NOOP\r\n", "b:2"},
		[]string{"a LOGIN {1+}\r\n\x00 \x00\r\n", "bad:a:143"},
		[]string{"a \x00 {1+}\r\n\x00\r\n", "bad:a:142"},
		[]string{"a \x00 {99999}\r\n", "bad:a:142", "b NOOP\r\n", "b:2"},
		[]string{"a LOGIN {1+}\r\n\x00 {99999}\r\n", "bad:a:143", "b NOOP\r\n", "b:2"},
		[]string{"\x00 {1+}\r\n\x00\r\n", "bad::142"},
		[]string{"+ {1+}\r\n\x00\r\n", "bad::143"},
	)
}

// P14.4, P14.5: lines, literals and commands at their bounds and one above.
func TestBounds(t *testing.T) {
	x := func(n int) string { return times(n, "x") }
	literal := func(n int, kind string) string { return "{" + strconv.Itoa(n) + kind + "}\r\n" }
	const line, long, most = api.MaxLine, api.MaxLiteral, api.MaxCommand
	fed(t,
		// A line alone.
		[]string{"a CREATE " + x(line-11) + "\r", "", "\nb NOOP\r\n", "a:7 b:2"},
		[]string{"a CREATE " + x(line-10) + "\r", "", "\nb NOOP\r\n", "bad:a:142 b:2"},
		[]string{"a CREATE " + x(line-9) + "\r\nb NOOP\r\n", "bad:a:142 b:2"},
		[]string{"a CREATE " + x(100000) + "\r\nb NOOP\r\n", "bad:a:142 b:2"},
		[]string{x(line-2) + "\r\n", "bad::141"},
		[]string{x(line-1) + "\r\n", "bad::142"},
		[]string{"a" + times(line-3, " ") + "\r\n", "bad:a:140"},
		[]string{"a" + times(line-2, " ") + "\r\n", "bad:a:142"},
		// Several pieces of line count together, their CR LFs too, and literals do not.
		[]string{"a LOGIN {3+}\r\nxyz " + x(line-17) + "\r\nb NOOP\r\n", "a:4 b:2"},
		[]string{"a LOGIN {3+}\r\nxyz " + x(line-16) + "\r\nb NOOP\r\n", "bad:a:142 b:2"},
		[]string{"a LOGIN " + x(line-17) + " {3+}\r\nxyz\r\n", "a:4"},
		[]string{"a LOGIN " + x(line-16) + " {3+}\r\nxyz\r\n", "bad:a:142"},
		[]string{"a LOGIN " + x(line-14) + " {3}\r\n", "+", "xyz", "", "\r\n", "bad:a:142"},
		[]string{"a LOGIN " + x(line-13) + " {3}\r\n", "bad:a:142", "b NOOP\r\n", "b:2"},
		[]string{"a LOGIN " + x(line-13) + " {3+}\r\n", "", "\r\n", "", "x\r\n", "bad:a:142", "b NOOP\r\n", "b:2"},
		[]string{"a " + x(5000) + " {2+}\r\n\r\n x\r\nb NOOP\r\n", "bad:a:142 b:2"},
		[]string{"a " + x(5000) + " {2}\r\nb NOOP\r\n", "bad:a:142 b:2"},
		[]string{"a " + x(50000) + " {2+}\r\n\r\n {2}\r\nb NOOP\r\n", "bad:a:142 b:2"},
		// One literal.
		[]string{"a CREATE " + literal(long, "+") + x(long), "", "\r", "", "\nb NOOP\r\n", "a:7 b:2"},
		[]string{"a CREATE " + literal(long, ""), "+", x(long) + "\r\nb NOOP\r\n", "a:7 b:2"},
		[]string{"a CREATE " + literal(long+1, "+") + x(long), "", "x\r", "", "\nb NOOP\r\n", "bad:a:143 b:2"},
		[]string{"a CREATE " + literal(long+1, ""), "bad:a:143", "b NOOP\r\n", "b:2"},
		[]string{"a CREATE " + literal(99999, ""), "bad:a:143", "b NOOP\r\n", "b:2"},
		[]string{"a CREATE " + literal(99999, "+") + times(99999, "\n"), "", "\r", "", "\nb NOOP\r\n", "bad:a:143 b:2"},
		[]string{"a CREATE {000016384}\r\n", "+", x(long) + "\r\n", "a:7"},
		[]string{"a CREATE " + literal(api.MaxNumber, ""), "bad:a:143", "b NOOP\r\n", "b:2"},
		[]string{"a CREATE " + literal(api.MaxNumber+1, ""), "bad:a:143", "b NOOP\r\n", "b:2"},
		[]string{"a CREATE {99999999999999999999999}\r\n", "bad:a:143", "b NOOP\r\n", "b:2"},
		// Behind one that is too long all is swallowed: further literals, lines that would be too long, what looks like a command.
		[]string{"a LOGIN " + literal(long+1, "+") + x(long+1), "", " {3+}\r\n", "", "xyz {4+}\r\n", "", "\x00\r\n\r", "", "\r\n", "bad:a:143", "b NOOP\r\n", "b:2"},
		[]string{"a LOGIN " + literal(long+1, "+") + x(long+1), "", " {3}\r\n", "bad:a:143", "b NOOP\r\n", "b:2"},
		[]string{"a LOGIN " + literal(long+1, "+") + x(long+1), "", x(5000) + "\r\n", "bad:a:143", "b NOOP\r\n", "b:2"},
		[]string{"a LOGIN " + literal(long+1, "+") + times((long+1)/9, "b NOOP\r\n"+"x") + x((long+1)%9), "", "\r\n", "bad:a:143", "b NOOP\r\n", "b:2"},
		[]string{"a LOGIN " + literal(long+1, "+") + x(long+1), "", " \"{3}\r\n", "bad:a:143", "b NOOP\r\n", "b:2"},
	)
	// A command as a whole: of three literals the third brings it to the bound.
	two := "a X " + literal(long, "+") + x(long) + " " + literal(long, "+") + x(long) + " "
	rest := most - len(two) - len("{8000+}\r\n")
	fed(t,
		[]string{two + literal(rest-2, "+") + x(rest-2), "", "\r\nb NOOP\r\n", "bad:a:140 b:2"},
		[]string{two + literal(rest-1, "+") + x(rest-1), "", "\r\nb NOOP\r\n", "bad:a:142 b:2"},
		[]string{two + literal(rest, "+") + x(rest), "", "\r\nb NOOP\r\n", "bad:a:142 b:2"},
		[]string{two + literal(rest+1, "+") + x(rest+1), "", "\r\nb NOOP\r\n", "bad:a:143 b:2"},
		[]string{two + literal(rest+1, ""), "+", x(rest + 1), "", "\r\nb NOOP\r\n", "bad:a:142 b:2"},
		[]string{two + literal(rest+2, ""), "bad:a:143", "b NOOP\r\n", "b:2"},
		[]string{two + literal(rest, ""), "+", x(rest), "", "x\r\nb NOOP\r\n", "bad:a:142 b:2"},
		[]string{two + literal(rest-1, ""), "+", x(rest - 1), "", "\r\nb NOOP\r\n", "bad:a:140 b:2"},
		[]string{two + literal(rest-2, ""), "+", x(rest - 2), "", "xx\r\nb NOOP\r\n", "bad:a:142 b:2"},
		[]string{two + literal(rest-4, "+") + x(rest-4), "", "{0}\r\n", "bad:a:142", "b NOOP\r\n", "b:2"},
		[]string{two + x(rest+20) + "\r\nb NOOP\r\n", "bad:a:142 b:2"},
	)
	search := "a SEARCH TO " + literal(long, "+") + x(long) + " TO " + literal(long, "+") + x(long) + " TO "
	rest = most - len(search) - len("{8000+}\r\n\r\n")
	fed(t,
		[]string{search + literal(rest, "+") + x(rest), "", "\r\nb NOOP\r\n", "a:20 b:2"},
		[]string{search + literal(rest+1, "+") + x(rest+1), "", "\r\nb NOOP\r\n", "bad:a:142 b:2"},
	)
	// More literals than words may be: Read finds that too long.
	fed(t,
		[]string{"a X" + times(600, " {0+}\r\n")[:585*7] + "\r\n", "bad:a:142"},
		[]string{"a X" + times(520, " {0+}\r\n") + "\r\n", "bad:a:140"},
		[]string{"a ENABLE x" + times(512, "{0+}\r\n") + "\r\n", "bad:a:140"},
		[]string{"+ X" + times(512, " {0+}\r\n") + "\r\n", "bad::141"},
		[]string{"+ X" + times(513, " {0+}\r\n") + "\r\n", "bad::140"},
	)
}

// P14.4, P14.5, P14.8: a number above MaxNumber that is announced at once ends all.
func TestOver(t *testing.T) {
	for _, ahead := range []string{"d ", "d \x00 ", "d \r", "d " + times(5000, "w") + " ", "d CREATE ", "d {3+}\r\nxyz ", "d {3+}\r\n\x00\x00\x00 ", "d " + times(99999, "\\") + "\"\" ", "d {16385+}\r\n" + times(16385, "x")} {
		for _, number := range []string{"4294967296", "00004294967296", "9999999999999999999999", "18446744073709551616", times(10000, "0") + "4294967296", times(10000, "1")} {
			fed(t, []string{ahead + "{" + number + "+}\r", "", "\ne NOOP\r\n", "bad:d:3", "f NOOP\r\n", "", "g {4294967296+}\r\n", ""})
		}
	}
	fed(t, []string{"{4294967296+}\r\n", "bad::3", "f NOOP\r\n", ""}, []string{"+ {4294967296+}\r\n", "bad::3", "f NOOP\r\n", ""})
	// The greatest number is no more than swallowed.
	r := command.New()
	r.Feed("a {4294967295+}\r\n")
	for range 100 {
		r.Feed(times(10000, "b NOOP\r\n"))
		if s := told(r); s != "" {
			t.Fatal(s)
		}
	}
	if n := r.Pending(); n != 100*80000+17 {
		t.Errorf("%d pending", n)
	}
	r = command.New()
	r.Feed("d {4294967296+}\r\ne NOOP\r\n")
	if n := r.Pending(); n != 25 {
		t.Errorf("%d pending", n)
	}
	if s := told(r); s != "bad:d:3" || r.Pending() != 0 {
		t.Errorf("%q, %d pending", s, r.Pending())
	}
	r.Feed("x")
	r.Idle(true)
	r.Feed("\r\ndone\r\n")
	if s := told(r); s != "" || r.Pending() != 0 {
		t.Errorf("over: %q, %d pending", s, r.Pending())
	}
}

// P14.4: announcements behind lines of any length: what is dropped of a long line changes nothing.
func TestLongAnnouncements(t *testing.T) {
	for n := range 5 * api.MaxLine {
		if n < api.MaxLine-10 || (n+10)%api.MaxLine > 20 {
			continue
		}
		for _, begin := range []string{"a ", "a \"", "a \"\\"} {
			for _, end := range []string{"{2+}", "{0002+}", "\"{2+}", "\\\"{2+}", "\"{2+}\"", "{2+", "{2+}{2+}", "{}", "{+}", "{12345678901+}", "{4294967296+}", "{4294967295+}"} {
				all := begin + times(n-len(begin)-len(end), "x") + end + "\r\n\r\n {1}\r\nb NOOP\r\nc NOOP\r\n"
				var slow slowReader
				slow.Feed(all)
				fast := command.New()
				fast.Feed(all)
				want, _ := slow.Next()
				got, _ := fast.Next()
				if short(got) != short(want) || fast.Pending() != slow.Pending() {
					t.Fatalf("%d bytes, %q, %q: %s, not %s", n, begin, end, short(got), short(want))
				}
			}
		}
	}
	r := rand.New(rand.NewPCG(14, 4))
	for range 400 {
		var s strings.Builder
		s.WriteString("a ")
		for s.Len() < 9000 {
			s.WriteString(times(1+r.IntN(oneOf(r, 1, 10, 5000)), oneOf(r, "x", "\"", "\\", "\"\\", "{", "0", "{0", "}", "+", "\"x\"", "{1}", "\"\"", "{00", "{5", "\\\\")))
		}
		s.WriteString(oneOf(r, "", "", "\"", "\\\"", "\\\\\""))
		s.WriteString(oneOf(r, "{3+}", "{0003+}", "{"+times(r.IntN(9000), "0")+"3+}", "{", "0", "{"+times(9000, "0")+"+", "3+}", "}", "+}"))
		all := s.String() + crlf + "b X\r\nc NOOP\r\n"
		var slow slowReader
		var fast command.Reader
		for _, piece := range cut(r, all, 20000) {
			slow.Feed(piece)
			fast.Feed(piece)
			for {
				want, is := slow.Next()
				got, isToo := fast.Next()
				if short(got) != short(want) || is != isToo {
					t.Fatalf("%q: %s, %v, not %s, %v", all, short(got), isToo, short(want), is)
				}
				if !is {
					break
				}
			}
		}
	}
}
