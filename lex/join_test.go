package lex_test

import (
	"math/rand/v2"
	"slices"
	"strconv"
	"strings"
	"testing"

	"postbag/api"
	"postbag/lex"
)

func atom(s string) api.Word    { return api.Word{Kind: api.WordAtom, Text: s} }
func quoted(s string) api.Word  { return api.Word{Kind: api.WordQuoted, Text: s} }
func literal(s string) api.Word { return api.Word{Kind: api.WordLiteral, Text: s} }

func list(kids ...api.Word) api.Word    { return api.Word{Kind: api.WordList, Kids: kids} }
func bracket(kids ...api.Word) api.Word { return api.Word{Kind: api.WordBracket, Kids: kids} }

func glued(w api.Word) api.Word {
	w.Glued = true
	return w
}

func words(l ...api.Word) []api.Word { return l }

func nested(depth int) api.Word {
	w := list()
	for range depth - 1 {
		w = list(w)
	}
	return w
}

// wantJoin writes words by the document's table, and counts what it writes.
func wantJoin(l []api.Word) (string, []string, api.Errno) {
	if len(l) > 512 {
		return "", nil, api.ErrLong
	}
	var literals []string
	count := 0
	fits := true
	var write func(l []api.Word, depth int) string
	write = func(l []api.Word, depth int) string {
		out := ""
		for i, w := range l {
			count++
			isList := w.Kind == api.WordList || w.Kind == api.WordBracket
			switch {
			case w.Glued && i == 0,
				w.Glued && w.Kind == api.WordAtom && l[i-1].Kind == api.WordAtom,
				isList && (w.Text != "" || depth == 12),
				!isList && len(w.Kids) > 0:
				fits = false
				return ""
			}
			if i > 0 && !w.Glued {
				out += " "
			}
			switch w.Kind {
			case api.WordAtom:
				fits = fits && w.Text != "" && strings.IndexFunc(w.Text, func(r rune) bool { return r < 33 || r > 126 || strings.ContainsRune(`()[]{}"`, r) }) < 0
				out += w.Text
			case api.WordQuoted:
				fits = fits && strings.IndexFunc(w.Text, func(r rune) bool { return r > 127 || strings.ContainsRune("\x00\r\n", r) }) < 0
				out += `"` + strings.NewReplacer(`"`, `\"`, `\`, `\\`).Replace(w.Text) + `"`
			case api.WordLiteral:
				fits = fits && len(w.Text) <= 16384
				literals = append(literals, w.Text)
				out += "{" + strconv.Itoa(len(w.Text)) + "}"
			case api.WordList:
				out += "(" + write(w.Kids, depth+1) + ")"
			case api.WordBracket:
				out += "[" + write(w.Kids, depth+1) + "]"
			default:
				fits = false
			}
		}
		return out
	}
	line := write(l, 0)
	if !fits || count > 512 || len(line) > 4096 {
		return "", nil, api.ErrArg
	}
	return line, literals, api.OK
}

func tellJoin(t *testing.T, l []api.Word, want string, wantLiterals []string, wantE api.Errno) {
	t.Helper()
	line, literals, e := lex.Join(l)
	if line != want || !slices.Equal(literals, wantLiterals) || e != wantE {
		t.Errorf("Join(%.90s): %.90q, %.40q, %d, not %.90q, %.40q, %d", shown(l), line, literals, e, want, wantLiterals, wantE)
	}
}

// lookAtJoin holds a writing against one of another make, and against what is read of it: P3.2, P3.7.
func lookAtJoin(t *testing.T, l []api.Word) {
	t.Helper()
	line, literals, e := wantJoin(l)
	before := shown(l)
	tellJoin(t, l, line, literals, e)
	if shown(l) != before {
		t.Errorf("Join(%s): the words are %s now", before, shown(l))
	}
	if e == api.OK {
		tellScan(t, line, literals, before, api.OK)
	}
}

// P3.2
func TestJoin(t *testing.T) {
	for _, c := range []struct {
		l        []api.Word
		want     string
		literals []string
	}{
		{nil, "", nil},
		{words(), "", nil},
		{words(atom("a")), "a", nil},
		{words(atom("a"), atom("b")), "a b", nil},
		{words(atom(`\Seen`), atom("*"), atom("%")), `\Seen * %`, nil},
		{words(atom("a"), glued(quoted("b")), glued(atom("c"))), `a"b"c`, nil},
		{words(quoted("")), `""`, nil},
		{words(quoted(`a"\`)), `"a\"\\"`, nil},
		{words(quoted("\x01\t \x7f(]")), "\"\x01\t \x7f(]\"", nil},
		{words(literal("")), "{0}", []string{""}},
		{words(literal("ab"), glued(list())), "{2}()", []string{"ab"}},
		{words(literal("\x00\xff\r\n123456"), literal("x")), "{10} {1}", []string{"\x00\xff\r\n123456", "x"}},
		{words(list()), "()", nil},
		{words(bracket()), "[]", nil},
		{words(api.Word{Kind: api.WordList, Kids: []api.Word{}}), "()", nil},
		{words(api.Word{Kind: api.WordAtom, Text: "a", Kids: []api.Word{}}), "a", nil},
		{words(list(atom("a"), glued(bracket(literal("x"), quoted("y")))), glued(atom("b"))), `(a[{1} "y"])b`, []string{"x"}},
		{words(list(literal("1")), bracket(literal("2")), literal("3")), "({1}) [{1}] {1}", []string{"1", "2", "3"}},
		{words(list(list(), list()), glued(list(list(), glued(list())))), "(() ())(()())", nil},
		{words(atom("x"), atom("BODY.PEEK"), glued(bracket(atom("HEADER"), list(atom("a"), atom("b")))), glued(atom("<0.10>"))), "x BODY.PEEK[HEADER (a b)]<0.10>", nil},
	} {
		tellJoin(t, c.l, c.want, c.literals, api.OK)
		lookAtJoin(t, c.l)
	}
}

// P3.2: words that no line gives.
func TestJoinRefuses(t *testing.T) {
	for _, l := range [][]api.Word{
		words(glued(atom("a"))),
		words(glued(list())),
		words(list(glued(atom("a")))),
		words(atom("a"), bracket(glued(literal("b")))),
		words(atom("a"), glued(atom("b"))),
		words(list(atom("a"), glued(atom("b")))),
		words(quoted("x"), atom("a"), glued(atom("b"))),
		words(atom("")),
		words(atom("a"), atom("")),
		words(atom(""), glued(atom("a"))),
		words(atom("a"), glued(atom("")), atom("b")),
		words(atom("a b")),
		words(atom(" a")),
		words(atom("a(b)")),
		words(atom("()")),
		words(atom(`"a"`)),
		words(atom("{1}")),
		words(atom("a}")),
		words(atom("a\r\n")),
		words(atom("\x00")),
		words(atom("\x7f")),
		words(atom("\xe9")),
		words(atom("é")),
		words(list(atom(")"), glued(atom("(")))),
		words(quoted("\x00")),
		words(quoted("\n")),
		words(quoted("\r")),
		words(quoted("\x80")),
		words(quoted("é")),
		words(literal(times(16385, "x"))),
		words(api.Word{Kind: api.WordList, Text: "a"}),
		words(api.Word{Kind: api.WordBracket, Text: " "}),
		words(api.Word{Kind: api.WordAtom, Text: "a", Kids: words(atom("b"))}),
		words(api.Word{Kind: api.WordQuoted, Text: "a", Kids: words(atom("b"))}),
		words(api.Word{Kind: api.WordLiteral, Text: "a", Kids: words(atom("b"))}),
		words(api.Word{}),
		words(api.Word{Kind: 0, Text: "a"}),
		words(api.Word{Kind: 6, Text: "a"}),
		words(api.Word{Kind: -1, Text: "a"}),
		words(atom("a"), glued(api.Word{Kind: 6})),
		words(list(api.Word{Kind: 6})),
		words(nested(13)),
		words(list(atom("a"), nested(12))),
		words(atom(times(4097, "a"))),
		words(quoted(times(4095, "a"))),
		words(quoted(times(2048, `"`))),
		words(atom(times(4093, "a")), literal("1")),
		words(atom(times(4095, "a")), atom("b")),
		words(list(slices.Repeat(words(list()), 512)...)),
		words(list(slices.Repeat(words(literal("")), 512)...)),
		append(slices.Repeat(words(atom("a")), 511), list(atom("a"))),
	} {
		tellJoin(t, l, "", nil, api.ErrArg)
		lookAtJoin(t, l)
	}
}

// P3.2: at each bound, and one past it.
func TestJoinBounds(t *testing.T) {
	many := func(n int, w api.Word) []api.Word { return slices.Repeat(words(w), n) }
	for _, c := range []struct {
		l    []api.Word
		want api.Errno
	}{
		{many(512, atom("a")), api.OK},
		{many(512, literal("")), api.OK},
		{many(513, atom("a")), api.ErrLong},
		{many(513, api.Word{}), api.ErrLong},
		{many(513, list(atom(" "))), api.ErrLong},
		{many(512, api.Word{}), api.ErrArg},
		{many(512, list(atom("a"))), api.ErrArg},
		{many(256, list(atom("a"))), api.OK},
		{append(many(256, list(atom("a"))), atom("a")), api.ErrArg},
		{words(list(many(511, list())...)), api.OK},
		{words(nested(12), nested(12)), api.OK},
		{words(atom(times(4096, "a"))), api.OK},
		{words(atom(times(4093, "a")), glued(literal("1"))), api.OK},
		{words(quoted(times(4094, " "))), api.OK},
		{words(quoted(times(2047, `\`))), api.OK},
		{words(literal(times(16384, "x"))), api.OK},
		{words(atom(times(4091, "a")), literal(times(10, "x"))), api.OK},
		{words(atom(times(4092, "a")), literal(times(10, "x"))), api.ErrArg},
		{words(atom(times(4092, "a")), literal("1")), api.OK},
	} {
		if _, _, e := lex.Join(c.l); e != c.want {
			t.Errorf("Join(%.60s) of %d: %d, not %d", shown(c.l), len(c.l), e, c.want)
		}
		lookAtJoin(t, c.l)
	}
}

// P3.2, W1: words that lie in themselves, or often in one another.
func TestJoinOfWordsWithoutAnEnd(t *testing.T) {
	for _, kind := range []int{api.WordAtom, api.WordQuoted, api.WordLiteral, api.WordList, api.WordBracket, 0} {
		ring := make([]api.Word, 2)
		ring[0] = api.Word{Kind: kind, Kids: ring}
		ring[1] = api.Word{Kind: api.WordList, Kids: ring, Glued: true}
		if line, literals, e := lex.Join(ring); line != "" || len(literals) > 0 || e != api.ErrArg {
			t.Errorf("a ring of kind %d: %q, %q, %d", kind, line, literals, e)
		}
	}
	wide := make([]api.Word, 1<<20)
	for range 100 {
		wide = slices.Repeat(words(api.Word{Kind: api.WordList, Kids: wide}), 512)
	}
	long := quoted(times(1<<24, `"`))
	for _, l := range [][]api.Word{wide, slices.Repeat(words(long), 512), words(list(slices.Repeat(words(list(long)), 511)...))} {
		if _, _, e := lex.Join(l); e != api.ErrArg {
			t.Errorf("%d", e)
		}
	}
}

// P3.2: each byte in each kind of word.
func TestJoinOfEachByte(t *testing.T) {
	for c := range 256 {
		for _, s := range []string{string([]byte{byte(c)}), string([]byte{byte(c), 'a'}), string([]byte{'a', byte(c)})} {
			for _, w := range words(atom(s), quoted(s), literal(s), api.Word{Kind: api.WordList, Text: s}) {
				for _, l := range [][]api.Word{words(w), words(list(w)), words(atom("a"), w), words(atom("a"), glued(w)), words(w, glued(list()))} {
					lookAtJoin(t, l)
				}
			}
		}
	}
}

func randomWord(r *rand.Rand, depth int) api.Word {
	w := api.Word{Kind: 1 + r.IntN(5), Glued: r.IntN(3) == 0}
	switch w.Kind {
	case api.WordAtom:
		w.Text = randomText(r, []string{"a", "b", "1", `\`, "*"}, 1+r.IntN(2))
	case api.WordQuoted:
		w.Text = randomText(r, []string{"a", " ", `\`, `"`, "(", "{1}"}, r.IntN(3))
	case api.WordLiteral:
		w.Text = randomText(r, []string{"a", " ", "\r\n", "\x00", "\x80"}, r.IntN(3))
	default:
		if depth < 12 {
			w.Kids = randomWords(r, depth+1)
		}
	}
	if r.IntN(20) > 0 {
		return w
	}
	switch r.IntN(4) {
	case 0:
		w.Kind = r.IntN(8) - 1
	case 1:
		w.Text = randomText(r, []string{"a", " ", "\n", ""}, r.IntN(2))
	case 2:
		w.Kids = words(atom("k"))
	case 3:
		w.Kids = words(nested(12))
	}
	return w
}

func randomWords(r *rand.Rand, depth int) []api.Word {
	var out []api.Word
	for range r.IntN(4) {
		w := randomWord(r, depth)
		if r.IntN(20) > 0 && (len(out) == 0 || w.Kind == api.WordAtom && out[len(out)-1].Kind == api.WordAtom) {
			w.Glued = false
		}
		out = append(out, w)
	}
	return out
}

// P3.2, P3.7
func TestJoinOfManyWords(t *testing.T) {
	r := rand.New(rand.NewPCG(3, 2))
	fits := 0
	lineOf := map[string]string{}
	for range 60000 {
		l := randomWords(r, 0)
		lookAtJoin(t, l)
		line, literals, e := lex.Join(l)
		if e != api.OK {
			continue
		}
		fits++
		key := line + "\n" + strings.Join(literals, "|")
		if of, is := lineOf[key]; is && of != shown(l) {
			t.Errorf("%q is the line of %s and of %s", line, of, shown(l))
		}
		lineOf[key] = shown(l)
	}
	if fits < 20000 || fits > 55000 {
		t.Errorf("%d of these words have a line", fits)
	}
}

// P3.2, P3.7: of a line that was read the one form is written, which gives the same words.
func TestJoinOfWhatWasRead(t *testing.T) {
	r := rand.New(rand.NewPCG(3, 3))
	for range 20000 {
		line, literals := randomLine(r)
		l, e := lex.Scan(line, literals)
		if e != api.OK {
			continue
		}
		again, sameLiterals, e := lex.Join(l)
		if e != api.OK || !slices.Equal(literals, sameLiterals) {
			t.Errorf("Join of %q: %q, %q, %d", line, again, sameLiterals, e)
		}
		tellScan(t, again, sameLiterals, shown(l), api.OK)
		lookAtJoin(t, l)
	}
}

// P3.2, W6
func TestJoinLeavesWordsAsTheyWere(t *testing.T) {
	l := append(make([]api.Word, 0, 8), literal("x"), list(literal("y"), atom("a")))
	spare := l[:8]
	spare[5] = atom("spare")
	first, literals, _ := lex.Join(l)
	second, others, _ := lex.Join(l)
	if overlap([][2]uintptr{room(literals), room(others)}) {
		t.Error("two answers share memory")
	}
	literals[0] = "z"
	if first != second || !slices.Equal(others, []string{"x", "y"}) || shown(l) != `l"x" (l"y" a"a")` || spare[5].Text != "spare" {
		t.Error(first, second, others, shown(l))
	}
}
