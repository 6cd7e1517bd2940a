package lex_test

import (
	"cmp"
	"math/big"
	"math/rand/v2"
	"regexp"
	"slices"
	"strconv"
	"strings"
	"testing"
	"unsafe"

	"postbag/api"
	"postbag/lex"
)

// shown writes words: a, q, l and their texts, ( ) and [ ]; + ahead of a glued one.
func shown(words []api.Word) string {
	var out []string
	for _, w := range words {
		s := ""
		if w.Glued {
			s = "+"
		}
		switch w.Kind {
		case api.WordAtom:
			s += "a"
		case api.WordQuoted:
			s += "q"
		case api.WordLiteral:
			s += "l"
		case api.WordList:
			s += "(" + shown(w.Kids) + ")"
		case api.WordBracket:
			s += "[" + shown(w.Kids) + "]"
		default:
			s += "?" + strconv.Itoa(w.Kind)
		}
		if w.Text != "" {
			s += strconv.Quote(w.Text)
		}
		if len(w.Kids) > 0 && w.Kind != api.WordList && w.Kind != api.WordBracket {
			s += "?" + shown(w.Kids)
		}
		out = append(out, s)
	}
	return strings.Join(out, " ")
}

// The order in which the document names the faults of one byte.
var rank = []api.Errno{api.ErrWords, api.ErrNest, api.ErrQuote, api.ErrCount, api.ErrLex}

type fault struct {
	at  int
	why api.Errno
}

type piece struct {
	kind byte // one of: blank ( ) q l a ?
	at   int
	text string
	open bool // a quoted one without an end
}

var pieceForm = regexp.MustCompile(`(?s)( )|([(\[])|([)\]])|"((?:[\x01-\x09\x0b\x0c\x0e-!#-\[\]-\x7f]|\\["\\])*)("?)|\{([0-9]+)\+?\}|([!#-'*-Z\\^-z|~]+)|(.)`)

func piecesOf(line string) []piece {
	var out []piece
	for _, m := range pieceForm.FindAllStringSubmatchIndex(line, -1) {
		for i, kind := range map[int]byte{1: ' ', 2: '(', 3: ')', 4: 'q', 6: 'l', 7: 'a', 8: '?'} {
			if m[2*i] >= 0 {
				open := kind == 'q' && m[10] == m[11]
				out = append(out, piece{kind, m[0], line[m[2*i]:m[2*i+1]], open})
			}
		}
	}
	return out
}

// faultsOf finds all that may be wrong with a line up to the end of what can be read.
func faultsOf(line string, literals []string) []fault {
	var out []fault
	opened, words, taken := "", 0, 0
	say := func(at int, why api.Errno) { out = append(out, fault{at, why}) }
	pieces := append(piecesOf(line), piece{kind: '$', at: len(line)})
	ahead := piece{kind: '^'}
	for i, p := range pieces {
		if strings.IndexByte("(qla", p.kind) >= 0 {
			if words++; words > 512 {
				say(p.at, api.ErrWords)
			}
		}
		switch p.kind {
		case ' ':
			if strings.IndexByte("^ (", ahead.kind) >= 0 || pieces[i+1].kind == ')' {
				say(p.at, api.ErrLex)
			}
		case '(':
			if opened += p.text; len(opened) > 12 {
				say(p.at, api.ErrNest)
			}
		case ')':
			if !strings.HasSuffix(opened, map[string]string{")": "(", "]": "["}[p.text]) {
				say(p.at, api.ErrNest)
				return out
			}
			opened = opened[:len(opened)-1]
		case 'q':
			if p.open {
				end := p.at + 1 + len(p.text)
				if line[end:] == `\` {
					end++
				}
				say(end, api.ErrQuote)
				if end == len(line) && opened != "" {
					say(end, api.ErrNest)
				}
				return out
			}
		case 'l':
			n, _ := new(big.Int).SetString(p.text, 10)
			if taken == len(literals) || n.Cmp(big.NewInt(int64(len(literals[taken])))) != 0 {
				say(p.at, api.ErrCount)
				return out
			}
			taken++
		case '?':
			say(p.at, api.ErrLex)
		case '$':
			if opened != "" {
				say(p.at, api.ErrNest)
			}
			if ahead.kind == ' ' {
				say(p.at, api.ErrLex)
			}
			if taken < len(literals) {
				say(p.at+1, api.ErrCount)
			}
		}
		ahead = p
	}
	return out
}

// wordsOf reads pieces without a fault, up to what ends the list that they stand in.
func wordsOf(pieces []piece, literals *[]string) (words []api.Word, rest []piece) {
	glued := false
	for len(pieces) > 0 && pieces[0].kind != ')' {
		p := pieces[0]
		pieces = pieces[1:]
		w := api.Word{Text: p.text, Glued: glued}
		glued = p.kind != ' '
		switch p.kind {
		case ' ':
			continue
		case 'a':
			w.Kind = api.WordAtom
		case 'q':
			w.Kind = api.WordQuoted
			w.Text = regexp.MustCompile(`\\(.)`).ReplaceAllString(p.text, "$1")
		case 'l':
			w.Kind = api.WordLiteral
			w.Text = (*literals)[0]
			*literals = (*literals)[1:]
		case '(':
			w.Kind = map[string]int{"(": api.WordList, "[": api.WordBracket}[p.text]
			w.Text = ""
			w.Kids, pieces = wordsOf(pieces, literals)
			pieces = pieces[1:]
		}
		words = append(words, w)
	}
	return words, pieces
}

// wantScan finds out the answer in another way: all faults first, and of them the one that comes first.
func wantScan(line string, literals []string) ([]api.Word, api.Errno) {
	if len(line) > 4096 || len(literals) > 512 || slices.ContainsFunc(literals, func(s string) bool { return len(s) > 16384 }) {
		return nil, api.ErrLong
	}
	faults := faultsOf(line, literals)
	if len(faults) == 0 {
		words, _ := wordsOf(piecesOf(line), &literals)
		return words, api.OK
	}
	first := slices.MinFunc(faults, func(a, b fault) int {
		return cmp.Or(cmp.Compare(a.at, b.at), cmp.Compare(slices.Index(rank, a.why), slices.Index(rank, b.why)))
	})
	return nil, first.why
}

func tellScan(t *testing.T, line string, literals []string, want string, wantE api.Errno) {
	t.Helper()
	words, e := lex.Scan(line, literals)
	if shown(words) != want || e != wantE {
		t.Errorf("Scan(%.90q, %.40q): %.90s, %d, not %.90s, %d", line, literals, shown(words), e, want, wantE)
	}
}

func lookAtScan(t *testing.T, line string, literals []string) {
	t.Helper()
	words, e := wantScan(line, literals)
	tellScan(t, line, literals, shown(words), e)
}

// everyText hands on all texts of up to most pieces.
func everyText(pieces []string, most int, look func(string)) {
	var grow func(s string, left int)
	grow = func(s string, left int) {
		look(s)
		if left > 0 {
			for _, p := range pieces {
				grow(s+p, left-1)
			}
		}
	}
	grow("", most)
}

func randomText(r *rand.Rand, pieces []string, n int) string {
	var out strings.Builder
	for range n {
		out.WriteString(pieces[r.IntN(len(pieces))])
	}
	return out.String()
}

func times(n int, s string) string { return strings.Repeat(s, n) }

// P3.1
func TestScan(t *testing.T) {
	for _, c := range []struct {
		line     string
		literals []string
		want     string
	}{
		{"", nil, ``},
		{"", []string{}, ``},
		{"a", nil, `a"a"`},
		{`!#$%&'*+,-./09:;<=>?@AZ\^_` + "`az|~", nil, `a"!#$%&'*+,-./09:;<=>?@AZ\\^_` + "`az|~\""},
		{"A1 LOGIN {4} {3+}", []string{"fred", "a b"}, `a"A1" a"LOGIN" l"fred" l"a b"`},
		{"x BODY.PEEK[HEADER (a b)]<0.10>", nil, `a"x" a"BODY.PEEK" +[a"HEADER" (a"a" a"b")] +a"<0.10>"`},
		{`a "b\"c" \Seen *`, nil, `a"a" q"b\"c" a"\\Seen" a"*"`},
		{`""`, nil, `q`},
		{`"\\\"\\"`, nil, `q"\\\"\\"`},
		{`" a  (]{}b "`, nil, `q" a  (]{}b "`},
		{"\"\x01\t\x1f\x7f\"", nil, `q"\x01\t\x1f\x7f"`},
		{`"a""b"`, nil, `q"a" +q"b"`},
		{`a"b"c`, nil, `a"a" +q"b" +a"c"`},
		{"()", nil, `()`},
		{"[]", nil, `[]`},
		{"a()", nil, `a"a" +()`},
		{"()a", nil, `() +a"a"`},
		{"() a", nil, `() a"a"`},
		{"()()", nil, `() +()`},
		{"[] ()", nil, `[] ()`},
		{"(())", nil, `(())`},
		{"([a] b)[(c)d]", nil, `([a"a"] a"b") +[(a"c") +a"d"]`},
		{`("a" {1}[x]y (z))`, []string{"l"}, `(q"a" l"l" +[a"x"] +a"y" (a"z"))`},
		{`["a"{1} x(y)]`, []string{"l"}, `[q"a" +l"l" a"x" +(a"y")]`},
		{"{0}", []string{""}, `l`},
		{"{007}{0}", []string{"1234567", ""}, `l"1234567" +l`},
		{"{0000000000000000000000000000000002+}", []string{"\x00\xff"}, `l"\x00\xff"`},
		{"a{1}b {1}", []string{"\r", "\n"}, `a"a" +l"\r" +a"b" l"\n"`},
		{`"{1}" {1}`, []string{"x"}, `q"{1}" l"x"`},
	} {
		tellScan(t, c.line, c.literals, c.want, api.OK)
	}
}

// P3.1
func TestScanRefuses(t *testing.T) {
	for line, want := range map[string]api.Errno{
		" ":                      api.ErrLex,
		" a":                     api.ErrLex,
		"a ":                     api.ErrLex,
		"a  b":                   api.ErrLex,
		"( a)":                   api.ErrLex,
		"(a )":                   api.ErrLex,
		"[ a]":                   api.ErrLex,
		"[a ]":                   api.ErrLex,
		"( )":                    api.ErrLex,
		"(a  b)":                 api.ErrLex,
		"() ":                    api.ErrLex,
		"a\tb":                   api.ErrLex,
		"a\r\n":                  api.ErrLex,
		"\x00":                   api.ErrLex,
		"\x7f":                   api.ErrLex,
		"\x80":                   api.ErrLex,
		"a\xff":                  api.ErrLex,
		"}":                      api.ErrLex,
		"a}":                     api.ErrLex,
		"{":                      api.ErrLex,
		"{}":                     api.ErrLex,
		"{+}":                    api.ErrLex,
		"{x}":                    api.ErrLex,
		"{-1}":                   api.ErrLex,
		"{1":                     api.ErrLex,
		"{1+":                    api.ErrLex,
		"{1++}":                  api.ErrLex,
		"{1 }":                   api.ErrLex,
		"{ 1}":                   api.ErrLex,
		"{{1}":                   api.ErrLex,
		"({1":                    api.ErrLex,
		")":                      api.ErrNest,
		"]":                      api.ErrNest,
		"(":                      api.ErrNest,
		"[":                      api.ErrNest,
		"(a]":                    api.ErrNest,
		"[a)":                    api.ErrNest,
		"([)]":                   api.ErrNest,
		"(a":                     api.ErrNest,
		"a)":                     api.ErrNest,
		"(a))":                   api.ErrNest,
		`"`:                      api.ErrQuote,
		`"a`:                     api.ErrQuote,
		`"a\`:                    api.ErrQuote,
		`"a\"`:                   api.ErrQuote,
		`"\a"`:                   api.ErrQuote,
		`"\`:                     api.ErrQuote,
		`"\ "`:                   api.ErrQuote,
		"\"\x00\"":               api.ErrQuote,
		"\"\n\"":                 api.ErrQuote,
		"\"\r\"":                 api.ErrQuote,
		"\"\x80\"":               api.ErrQuote,
		"\"\xff\"":               api.ErrQuote,
		"\"\\\x00\"":             api.ErrQuote,
		`"a"b"`:                  api.ErrQuote,
		"{1}":                    api.ErrCount,
		"({0})":                  api.ErrCount,
		"({0}":                   api.ErrCount,
		"{4294967296}":           api.ErrCount,
		"{4294967295} }":         api.ErrCount,
		`a {1+} "`:               api.ErrCount,
		"{18446744073709551616}": api.ErrCount,
	} {
		tellScan(t, line, nil, "", want)
	}
}

// P3.1
func TestScanFitsLiterals(t *testing.T) {
	for _, c := range []struct {
		line     string
		literals []string
	}{
		{"a", []string{"b"}},
		{"", []string{""}},
		{"{1}", []string{"ab"}},
		{"{1}", []string{""}},
		{"{1}", []string{"a", ""}},
		{"{1}{1}", []string{"a"}},
		{"{1}{2}", []string{"ab", "a"}},
		{"{2}{1}", []string{"ab", "ab"}},
		{"{4294967296}", []string{""}},
		{"{4294967297}", []string{"a"}},
		{"{18446744073709551616}", []string{""}},
		{"{18446744073709551617+}", []string{"a"}},
		{"{" + times(4000, "9") + "}", []string{""}},
	} {
		tellScan(t, c.line, c.literals, "", api.ErrCount)
	}
}

// P3.1: where two faults fall on one byte, or on the line's end, or follow each other.
func TestScanTellsTheFirstFault(t *testing.T) {
	full := times(512, "a ")
	for _, c := range []struct {
		line     string
		literals []string
		want     api.Errno
	}{
		{full + "(", nil, api.ErrWords},
		{full + `"`, nil, api.ErrWords},
		{full + `"` + "\x00", nil, api.ErrWords},
		{full + "{1}", nil, api.ErrWords},
		{full + "{1+}", []string{"a"}, api.ErrWords},
		{full + "{x}", nil, api.ErrLex},
		{full + "{", nil, api.ErrLex},
		{full + "}", nil, api.ErrLex},
		{full + ")", nil, api.ErrLex},
		{full, nil, api.ErrLex},
		{full + " b", nil, api.ErrLex},
		{times(511, "a ") + "b)", nil, api.ErrNest},
		{times(511, "a ") + "(", nil, api.ErrNest},
		{times(511, "a ") + "{1}", nil, api.ErrCount},
		{times(511, "a ") + `"`, nil, api.ErrQuote},
		{times(12, "(") + times(500, "a ") + "(", nil, api.ErrWords},
		{times(12, "(") + times(499, "a ") + "(", nil, api.ErrNest},
		{times(12, "(") + times(500, "a ") + "]", nil, api.ErrLex},
		{times(12, "(") + "]", nil, api.ErrNest},
		{times(13, "[") + " ", nil, api.ErrNest},
		{times(12, "[") + " [", nil, api.ErrLex},
		{`("a`, nil, api.ErrNest},
		{`("a\`, nil, api.ErrNest},
		{`("\a"`, nil, api.ErrQuote},
		{`("` + "\n", nil, api.ErrQuote},
		{`"a `, nil, api.ErrQuote},
		{"(a ", nil, api.ErrNest},
		{"(a ", []string{"b"}, api.ErrNest},
		{"a ", []string{"b"}, api.ErrLex},
		{`"a`, []string{"b"}, api.ErrQuote},
		{"(a ]", nil, api.ErrLex},
		{"a )", nil, api.ErrLex},
		{"a ]", nil, api.ErrLex},
		{"(]", nil, api.ErrNest},
		{"{1}}", nil, api.ErrCount},
		{"}{1}", nil, api.ErrLex},
		{"{1} ", []string{"a"}, api.ErrLex},
	} {
		tellScan(t, c.line, c.literals, "", c.want)
	}
}

// P3.1: at each bound, and one past it.
func TestScanBounds(t *testing.T) {
	many := func(n int, s string) []string { return slices.Repeat([]string{s}, n) }
	for _, c := range []struct {
		line     string
		literals []string
		want     api.Errno
	}{
		{times(4096, "a"), nil, api.OK},
		{times(4097, "a"), nil, api.ErrLong},
		{times(4097, " "), nil, api.ErrLong},
		{times(4096, " "), nil, api.ErrLex},
		{`"` + times(4094, " ") + `"`, nil, api.OK},
		{times(511, "a ") + "b", nil, api.OK},
		{times(512, "a ") + "b", nil, api.ErrWords},
		{times(512, "()"), nil, api.OK},
		{times(513, "()"), nil, api.ErrWords},
		{times(256, "(a)"), nil, api.OK},
		{times(256, "(a)") + "[]", nil, api.ErrWords},
		{times(256, `[""]`), nil, api.OK},
		{"(" + times(511, "[]") + ")", nil, api.OK},
		{"(" + times(512, "[]") + ")", nil, api.ErrWords},
		{times(512, "{0}"), many(512, ""), api.OK},
		{times(513, "{0}"), many(512, ""), api.ErrWords},
		{times(513, "{0}"), many(513, ""), api.ErrLong},
		{"", many(512, ""), api.ErrCount},
		{"", many(513, ""), api.ErrLong},
		{times(12, "(") + times(12, ")"), nil, api.OK},
		{times(6, "([") + times(6, "])"), nil, api.OK},
		{times(13, "(") + times(13, ")"), nil, api.ErrNest},
		{times(6, "([") + "[]" + times(6, "])"), nil, api.ErrNest},
		{times(12, "(") + times(12, ")") + " " + times(12, "[") + "a" + times(12, "]"), nil, api.OK},
		{times(12, "(") + times(12, ")") + "(", nil, api.ErrNest},
		{"{16384}", many(1, times(16384, "x")), api.OK},
		{"{16385}", many(1, times(16385, "x")), api.ErrLong},
		{"(", many(1, times(16385, "x")), api.ErrLong},
		{"{0}", []string{"", times(16385, "x")}, api.ErrLong},
		{times(4092, "a") + "{1+}", many(1, "x"), api.OK},
	} {
		words, e := wantScan(c.line, c.literals)
		if e != c.want {
			t.Errorf("wantScan(%.40q): %d, not %d", c.line, e, c.want)
		}
		tellScan(t, c.line, c.literals, shown(words), c.want)
	}
}

// P3.1: each byte at each place of a short line.
func TestScanOfEachByte(t *testing.T) {
	for c := range 256 {
		b := string([]byte{byte(c)})
		for _, line := range []string{b, "a" + b, b + "a", "a " + b, "(" + b, "(" + b + ")", "[a" + b + "a]", `"` + b + `"`, `"\` + b + `"`, `"` + b, `"\` + b, `"a` + b + `a"`, `"a"` + b, "{" + b + "}", "{1" + b + "}", "{1}" + b, "{1" + b} {
			lookAtScan(t, line, nil)
			lookAtScan(t, line, []string{"x"})
		}
	}
}

var (
	linePieces   = []string{" ", "(", ")", "[", "]", `"`, `\`, "{1}", "{0+}", "{", "}", "a", "1", "\x00"}
	someLiterals = [][]string{nil, {"x"}, {"", "x"}, {"x", ""}}
)

// P3.1
func TestScanOfEveryShortLine(t *testing.T) {
	everyText(linePieces, 4, func(line string) {
		for _, literals := range someLiterals[:3] {
			lookAtScan(t, line, literals)
		}
	})
}

// P3.1
func TestScanBehindMuch(t *testing.T) {
	for _, front := range []string{times(511, "a "), times(512, "a "), times(511, "()"), times(255, "(a)"), times(256, "[a]"), times(11, "("), times(12, "("), times(12, "["), times(12, "(") + times(499, "a "), times(12, "(") + times(500, "a ")} {
		everyText(linePieces, 2, func(line string) {
			lookAtScan(t, front+line, nil)
			lookAtScan(t, front+line, []string{"x"})
		})
	}
}

// P3.1
func TestScanOfManyLines(t *testing.T) {
	r := rand.New(rand.NewPCG(3, 1))
	pieces := append(slices.Clone(linePieces), " a", " b", "(a)", "[b c]", `"d e"`, `"\\"`, "\x80", "\r", "\n", "\x7f", "x", "x", "(", ")", "[", "]")
	for range 60000 {
		lookAtScan(t, randomText(r, pieces, r.IntN(14)), someLiterals[r.IntN(len(someLiterals))])
	}
	for range 20000 {
		line, literals := randomLine(r)
		lookAtScan(t, line, literals)
		if line != "" {
			at := r.IntN(len(line))
			lookAtScan(t, line[:at]+linePieces[r.IntN(len(linePieces))]+line[at+r.IntN(2):], literals)
		}
	}
}

// randomLine is a line without a fault, written by hand.
func randomLine(r *rand.Rand) (string, []string) {
	var literals []string
	var words func(depth int) string
	words = func(depth int) string {
		out := ""
		for i := range r.IntN(5) {
			if i > 0 && r.IntN(3) > 0 {
				out += " "
			}
			switch r.IntN(6) {
			case 0, 1:
				out += randomText(r, []string{"a", "B", "9", `\`, "%", "*", "+", "~", "."}, 1+r.IntN(3))
			case 2:
				out += `"` + randomText(r, []string{"a", " ", `\"`, `\\`, "(", "]", "{1}", "\t", "\x7f"}, r.IntN(4)) + `"`
			case 3:
				literal := randomText(r, []string{"a", "\r\n", "\x00", "\xff", `"`, " "}, r.IntN(4))
				literals = append(literals, literal)
				out += "{" + times(r.IntN(3), "0") + strconv.Itoa(len(literal)) + times(r.IntN(2), "+") + "}"
			case 4:
				if depth < 12 {
					out += "(" + words(depth+1) + ")"
				}
			case 5:
				if depth < 12 {
					out += "[" + words(depth+1) + "]"
				}
			}
		}
		return strings.TrimSpace(out)
	}
	return words(0), literals
}

// room tells where a list lies, its spare room too.
func room[T any](l []T) [2]uintptr {
	from := uintptr(unsafe.Pointer(unsafe.SliceData(l)))
	var one T
	return [2]uintptr{from, from + uintptr(cap(l))*unsafe.Sizeof(one)}
}

func roomsOf(words []api.Word) [][2]uintptr {
	var out [][2]uintptr
	if cap(words) > 0 {
		out = append(out, room(words))
	}
	for _, w := range words {
		out = append(out, roomsOf(w.Kids)...)
	}
	return out
}

func overlap(rooms [][2]uintptr) bool {
	slices.SortFunc(rooms, func(a, b [2]uintptr) int { return cmp.Compare(a[0], b[0]) })
	for i := range len(rooms) - 1 {
		if rooms[i][1] > rooms[i+1][0] {
			return true
		}
	}
	return false
}

// P3.1, W6
func TestScanAnswersNewMemory(t *testing.T) {
	const line = "a (b [] [c d] e) {1} (f)(g [h i j] [k l m n o])"
	given := []string{"x", "spare"}
	first, _ := lex.Scan(line, given[:1])
	second, _ := lex.Scan(line, given[:1])
	if !slices.Equal(given, []string{"x", "spare"}) {
		t.Error("the literals have changed:", given)
	}
	if overlap(append(roomsOf(first), roomsOf(second)...)) {
		t.Error("two lists share memory")
	}
	given[0] = "y"
	if want := shown(second); shown(first) != want || !strings.Contains(want, `l"x"`) {
		t.Error("an answer has changed:", shown(first), want)
	}
}

// P3.1, W2
func TestScanKeepsNothing(t *testing.T) {
	want, _ := lex.Scan("(a [b]) c", nil)
	lex.Scan("((((", nil)
	lex.Scan(`x "`, []string{"y"})
	lex.Scan(times(512, "a ")+"b", nil)
	if got, e := lex.Scan("(a [b]) c", nil); shown(got) != shown(want) || e != api.OK {
		t.Error(shown(got), e)
	}
}
