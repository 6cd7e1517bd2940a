package search_test

import (
	"maps"
	"math/rand/v2"
	"regexp"
	"slices"
	"strconv"
	"strings"
	"testing"
	"time"

	"postbag/api"
	"postbag/search"
)

// grammar is what stands behind a name: k a key, t a text, f a field's name, w a keyword, d a day, n a number, s a set.
type grammar struct {
	kind int
	flag string
	args string
}

// table is the table of chapter 7, by names in large letters.
var table = grammars()

func grammars() map[string]grammar {
	table := map[string]grammar{
		"NOT": {api.KeyNot, "", "k"}, "OR": {api.KeyOr, "", "kk"}, "ALL": {kind: api.KeyAll}, "UID": {api.KeyUid, "", "s"},
		"KEYWORD": {api.KeyFlag, "", "w"}, "UNKEYWORD": {api.KeyUnflag, "", "w"}, "RECENT": {kind: api.KeyFlag, flag: `\Recent`}, "NEW": {kind: api.KeyNew}, "OLD": {kind: api.KeyOld},
		"HEADER": {api.KeyHeader, "", "ft"},
	}
	for _, f := range flags {
		table[strings.ToUpper(f[1:])] = grammar{kind: api.KeyFlag, flag: f}
		table["UN"+strings.ToUpper(f[1:])] = grammar{kind: api.KeyUnflag, flag: f}
	}
	for i, name := range strings.Fields("BCC BODY CC FROM - SUBJECT TEXT TO BEFORE ON SINCE SENTBEFORE SENTON SENTSINCE LARGER SMALLER MODSEQ") {
		if name != "-" {
			table[name] = grammar{api.KeyBcc + i, "", string("ttttttttddddddnnn"[i])}
		}
	}
	return table
}

// large is a text with the letters of ASCII large.
func large(s string) string {
	out := []byte(s)
	for i, c := range out {
		if 'a' <= c && c <= 'z' {
			out[i] = c - 'a' + 'A'
		}
	}
	return string(out)
}

var (
	anAstring = regexp.MustCompile("^[!#$&'+,\\-./0-9:;<=>?@A-Z^_`a-z|~]+$")
	aDay      = regexp.MustCompile(`^[0-9]{1,2}-[A-Za-z]{3}-[0-9]{4}$`)
	aNumber   = regexp.MustCompile(`^(0|[1-9][0-9]{0,9})$`)
	aSet      = regexp.MustCompile(`^(\*|[1-9][0-9]{0,9})(:(\*|[1-9][0-9]{0,9}))?(,(\*|[1-9][0-9]{0,9})(:(\*|[1-9][0-9]{0,9}))?)*$`)
)

func bounded(s string) (int, bool) {
	n, err := strconv.Atoi(s)
	return n, err == nil && n <= 4294967295
}

func setOf(s string) ([]api.Range, bool) {
	var set []api.Range
	for _, piece := range strings.Split(s, ",") {
		ends := strings.Split(strings.ReplaceAll(piece, "*", "0"), ":")
		from, is := bounded(ends[0])
		to, too := bounded(ends[len(ends)-1])
		if !is || !too {
			return nil, false
		}
		set = append(set, api.Range{From: from, To: to})
	}
	return set, len(s) <= 4096 && len(set) <= 64
}

// put puts a word into a key as an argument.
func put(k *api.Key, as rune, w api.Word) bool {
	isAtom := w.Kind == api.WordAtom
	isText := len(w.Text) <= 16384 && (w.Kind == api.WordQuoted || w.Kind == api.WordLiteral || isAtom && anAstring.MatchString(w.Text) && large(w.Text) != "NIL")
	is := false
	switch as {
	case 't':
		k.Text, is = w.Text, isText
	case 'f':
		k.Field, is = w.Text, isText
	case 'w':
		k.Text, is = w.Text, isAtom && aKeyword.MatchString(w.Text)
	case 'd':
		at, err := time.Parse("2-Jan-2006", strings.TrimPrefix(w.Text, "0"))
		k.Day = api.Moment{Year: at.Year(), Month: int(at.Month()), Day: at.Day()}
		is = (isAtom || w.Kind == api.WordQuoted) && aDay.MatchString(w.Text) && err == nil && at.Year() > 0
	case 'n':
		k.Num, is = bounded(w.Text)
		is = is && isAtom && aNumber.MatchString(w.Text)
	case 's':
		if isAtom && aSet.MatchString(w.Text) {
			k.Set, is = setOf(w.Text)
		}
	}
	return is
}

// step is a key without those below it, and how many these are.
type step struct {
	key  api.Key
	kids int
}

// steps reads words from the left, each name with its own words, a list as one key.
func steps(words []api.Word) ([]step, bool) {
	var all []step
	for len(words) > 0 {
		w := words[0]
		words = words[1:]
		if w.Glued {
			return nil, false
		}
		if w.Kind == api.WordList {
			k, is := keyOf(w.Kids)
			if !is {
				return nil, false
			}
			all = append(all, step{key: k})
			continue
		}
		g, is := table[large(w.Text)]
		if !is || w.Kind != api.WordAtom {
			g, words = grammar{kind: api.KeySet, args: "s"}, append([]api.Word{w}, words...)
		}
		s := step{key: text(g.kind, g.flag), kids: strings.Count(g.args, "k")}
		for _, as := range strings.ReplaceAll(g.args, "k", "") {
			if len(words) == 0 || words[0].Glued || !put(&s.key, as, words[0]) {
				return nil, false
			}
			words = words[1:]
		}
		all = append(all, s)
	}
	return all, true
}

// keyOf puts steps together from the right: those below a key have been put together when it comes.
func keyOf(words []api.Word) (api.Key, bool) {
	all, is := steps(words)
	var ready []api.Key
	for _, s := range slices.Backward(all) {
		if s.kids > len(ready) {
			return api.Key{}, false
		}
		for range s.kids {
			s.key.Kids = append(s.key.Kids, ready[len(ready)-1])
			ready = ready[:len(ready)-1]
		}
		ready = append(ready, s.key)
	}
	switch {
	case !is || len(ready) == 0:
		return api.Key{}, false
	case len(ready) == 1:
		return ready[0], true
	}
	slices.Reverse(ready)
	return and(ready...), true
}

// keyRead is what Read is to answer.
func keyRead(words []api.Word, at int) (api.Key, api.Errno) {
	switch {
	case len(words) > 512:
		return api.Key{}, api.ErrLong
	case at < 0 || at > len(words):
		return api.Key{}, api.ErrArg
	}
	k, is := keyOf(words[at:])
	if !is {
		return api.Key{}, api.ErrKey
	}
	if e := checked(k); e != api.OK {
		return api.Key{}, e
	}
	return k, api.OK
}

// lookAtRead: P7.2, P7.3, P7.7, W3, W6.
func lookAtRead(t *testing.T, words []api.Word, at int) api.Errno {
	t.Helper()
	in := roomyWords(words)
	before := shownWords(in)
	k, e := search.Read(in, at)
	want, f := keyRead(words, at)
	if e != f || !isSame(k, want) {
		t.Errorf("Read(%.300s, %d): %.300s, %d, not %.300s, %d", told(words), at, shown(k), e, shown(want), f)
	}
	lookAtRooms(t, "Read", in, k)
	scribble(k)
	if again, f := search.Read(in, at); f != e || !isSame(again, want) {
		t.Errorf("Read(%.300s, %d) behind writing upon its answer: %.300s, %d", told(words), at, shown(again), f)
	}
	if shownWords(in) != before {
		t.Errorf("Read(%.300s, %d) changes it", told(words), at)
	}
	if e != api.OK && e != api.ErrKey && e != api.ErrKeys && e != api.ErrLong && e != api.ErrArg {
		t.Errorf("Read(%.300s, %d): %d", told(words), at, e)
	}
	return e
}

// P7.2: the examples, and others in their way.
func TestLinesOfKeys(t *testing.T) {
	seen, unseen := flag(`\Seen`), unflag(`\Seen`)
	for s, want := range map[string]api.Key{
		`unseen from "Joe" 2:4`:           and(unseen, text(api.KeyFrom, "Joe"), set(api.KeySet, 2, 4)),
		`(SEEN)`:                          seen,
		`((SEEN))`:                        seen,
		`or (new) not (1 uid 5:*)`:        or(api.Key{Kind: api.KeyNew}, not(and(set(api.KeySet, 1, 1), set(api.KeyUid, 5, 0)))),
		`(SEEN ALL)`:                      and(seen, all()),
		`(SEEN ALL) ALL`:                  and(and(seen, all()), all()),
		`((SEEN) (ALL))`:                  and(seen, all()),
		`OR OR ALL SEEN UNSEEN`:           or(or(all(), seen), unseen),
		`OR ALL OR SEEN UNSEEN`:           or(all(), or(seen, unseen)),
		`OR NOT ALL NOT SEEN ALL`:         and(or(not(all()), not(seen)), all()),
		`NOT NOT ALL`:                     not(not(all())),
		`KEYWORD Seen UNKEYWORD nil`:      and(flag("Seen"), unflag("nil")),
		`SUBJECT ALL`:                     text(api.KeySubject, "ALL"),
		`SUBJECT NOT ALL`:                 and(text(api.KeySubject, "NOT"), all()),
		`SUBJECT "NIL"`:                   text(api.KeySubject, "NIL"),
		`HEADER HEADER HEADER`:            header("HEADER", "HEADER"),
		`header "" ""`:                    header("", ""),
		`ON 1-feb-2026 ON "01-FEB-2026"`:  and(day(api.KeyOn, 2026, 2, 1), day(api.KeyOn, 2026, 2, 1)),
		`LARGER 0 SMALLER 4294967295`:     and(number(api.KeyLarger, 0), number(api.KeySmaller, api.MaxNumber)),
		`*`:                               set(api.KeySet, 0, 0),
		`*:4294967295,7 UID 1,2:*`:        and(set(api.KeySet, 0, api.MaxNumber, 7, 7), set(api.KeyUid, 1, 1, 2, 0)),
		`recent Unflagged rEcEnT`:         and(flag(`\Recent`), unflag(`\Flagged`), flag(`\Recent`)),
		`TEXT a-b TEXT 1:2 BODY "(" TO +`: and(text(api.KeyText, "a-b"), text(api.KeyText, "1:2"), text(api.KeyBody, "("), text(api.KeyTo, "+")),
	} {
		if k := read(t, s); !isSame(k, want) {
			t.Errorf("Read(%q): %s", s, shown(k))
		}
		lookAtRead(t, line(t, s), 0)
	}
}

// P7.2: words that are no keys.
func TestLinesOfNoKeys(t *testing.T) {
	for _, s := range []string{
		``, `()`, `(())`, `NOT`, `OR`, `OR SEEN`, `NOT ()`, `OR () SEEN`, `OR SEEN ()`, `SEEN ()`, `() SEEN`, `(NOT) SEEN`, `(OR SEEN) SEEN`, `NOT (NOT) ALL`,
		`KEYWORD \Seen`, `UNKEYWORD \Recent`, `KEYWORD`, `KEYWORD "x"`, `KEYWORD (x)`, `SUBJECT`, `SUBJECT NIL`, `SUBJECT nil`, `SUBJECT (x)`, `SUBJECT a*`, `SUBJECT \a`, `SUBJECT %`, `HEADER`, `HEADER x`, `HEADER NIL x`, `HEADER x nIL`, `HEADER (x) y`,
		`LARGER`, `LARGER 01`, `LARGER -1`, `LARGER +1`, `LARGER "1"`, `LARGER 4294967296`, `LARGER 99999999999999999999`, `SMALLER x`, `MODSEQ (1)`, `MODSEQ 00`,
		`1:`, `:1`, `0`, `1,`, `,1`, `01`, `1:2:3`, `4294967296`, `"1"`, `(1) 2:`, `UID`, `UID SEEN`, `UID "1"`, `UID (1)`, `UID 0`, `UID NOT`, `UID UID 1`,
		`ON`, `ON 30-Feb-2026`, `ON 1-Feb-0000`, `ON 001-Feb-2026`, `ON 1-Feb-26`, `ON today`, `ON (1-Feb-2026)`, `SENTON " 1-Feb-2026"`,
		`NOT(SEEN)`, `(SEEN)(SEEN)`, `SEEN(SEEN)`, `"SEEN"`, `[SEEN]`, `NOT [SEEN]`, `SEEN []`, `SUBJECT [x]`, `UNRECENT`, `UNNEW`, `UNOLD`, `UNALL`, `AND`, `AND SEEN SEEN`, `SET 1`, `FLAG x`, `\Seen`, `\Recent`, `SEEN SEENX`, `SEE`, `x`, `NIL`,
	} {
		if e := lookAtRead(t, line(t, s), 0); e != api.ErrKey {
			t.Errorf("Read(%q): %d", s, e)
		}
	}
}

// P7.2: ErrLong goes ahead of ErrArg, and that ahead of ErrKey; at counts from the first word.
func TestPlacesToReadFrom(t *testing.T) {
	full := times(api.MaxWords, atom("ALL"))
	for _, c := range []struct {
		words []api.Word
		at    int
		want  api.Errno
	}{
		{full, api.MaxWords - 1, api.OK}, {full, api.MaxWords - 31, api.OK}, {full, api.MaxWords - 32, api.ErrKeys}, {full, 0, api.ErrKeys},
		{full, api.MaxWords, api.ErrKey}, {full, api.MaxWords + 1, api.ErrArg}, {full, -1, api.ErrArg},
		{append(full, atom("ALL")), 0, api.ErrLong}, {append(full, atom("ALL")), -1, api.ErrLong}, {append(full, atom("ALL")), 9999, api.ErrLong}, {append(full, atom("ALL")), api.MaxWords, api.ErrLong},
		{make([]api.Word, api.MaxWords+1), 0, api.ErrLong}, {make([]api.Word, api.MaxWords), 0, api.ErrKey}, {times(100000, atom("ALL")), most, api.ErrLong},
		{nil, 0, api.ErrKey}, {[]api.Word{}, 0, api.ErrKey}, {nil, 1, api.ErrArg}, {nil, -1, api.ErrArg}, {nil, least, api.ErrArg}, {nil, most, api.ErrArg},
		{line(t, "SEEN"), 0, api.OK}, {line(t, "SEEN"), 1, api.ErrKey}, {line(t, "SEEN"), 2, api.ErrArg}, {line(t, "SEEN"), least, api.ErrArg}, {line(t, "SEEN"), most, api.ErrArg},
		{line(t, "x (SEEN)"), 1, api.OK}, {line(t, "x (SEEN)"), 0, api.ErrKey}, {line(t, "NOT SEEN"), 1, api.OK}, {line(t, "x y[]"), 1, api.ErrKey},
		{[]api.Word{list(times(api.MaxWords+1, atom("ALL"))...)}, 0, api.ErrKeys}, {[]api.Word{list(times(31, atom("ALL"))...)}, 0, api.OK},
		{[]api.Word{{Glued: true}, {Kind: 9}, atom("ALL")}, 2, api.OK},
	} {
		if e := lookAtRead(t, c.words, c.at); e != c.want {
			t.Errorf("Read(%.100s, %d): %d, not %d", told(c.words), c.at, e, c.want)
		}
	}
}

// mixed is a text with the letters of ASCII large and small in turn.
func mixed(s string) string {
	out := []byte(large(s))
	for i := 0; i < len(out); i += 2 {
		if 'A' <= out[i] && out[i] <= 'Z' {
			out[i] += 'a' - 'A'
		}
	}
	return string(out)
}

// rightArgs is a right word for each argument of a name.
func rightArgs(args string) []api.Word {
	var words []api.Word
	for _, as := range args {
		words = append(words, map[rune]api.Word{'k': atom("ALL"), 't': atom("text"), 'f': quoted("field"), 'w': atom("work"), 'd': atom("1-Feb-2026"), 'n': atom("7"), 's': atom("1:*")}[as])
	}
	return words
}

// someWords is words of all kinds.
func someWords() []api.Word {
	words := []api.Word{{}, {Kind: -1, Text: "ALL"}, {Kind: 6, Text: "ALL"}, {Kind: api.WordBracket}, {Kind: api.WordBracket, Kids: []api.Word{atom("ALL")}}, {Kind: api.WordBracket, Text: "ALL"}}
	for _, s := range []string{"ALL", "", "a", "nil", "NIL", "NOT", "OR", "UID", "KEYWORD", "1", "0", "01", "1:*", "*", "1,", "7:7", "4294967295", "4294967296", "1-Feb-2026", "01-feb-2026", "1-Feb-0000", "29-Feb-2026", "a b", `\Seen`, "a*", "é", "x\x00", "(", strings.Repeat("k", 24), strings.Repeat("k", 25), strings.Repeat("x", 16384), strings.Repeat("x", 16385)} {
		words = append(words, atom(s), quoted(s), literal(s), list(atom(s)), list(quoted(s)), list(atom(s), atom("ALL")))
	}
	words = append(words, list(), list(list()), list(list(atom("ALL"))), list(atom("NOT"), atom("ALL")), list(atom("OR"), atom("ALL"), atom("SEEN")), list(atom("OR"), atom("ALL")))
	words = append(words, api.Word{Kind: api.WordList, Text: "text", Kids: []api.Word{atom("ALL")}}, api.Word{Kind: api.WordAtom, Text: "ALL", Kids: []api.Word{{Kind: 9}}}, api.Word{Kind: api.WordAtom, Text: "1", Kids: []api.Word{{Kind: 9, Glued: true}}})
	return append(words, api.Word{Kind: api.WordQuoted, Text: "a", Kids: []api.Word{{}}}, api.Word{Kind: api.WordLiteral, Text: "a", Kids: []api.Word{{}}})
}

// P7.2: every name in any case, its arguments missing, one too many, glued, of every kind of word.
func TestNamesAndTheirArguments(t *testing.T) {
	for name, g := range table {
		args := rightArgs(g.args)
		for _, s := range []string{name, strings.ToLower(name), mixed(name), name + " ", " " + name, name + "X", name[1:], "UN" + name, strings.ReplaceAll(strings.ToLower(name), "k", "\u212a"), strings.ReplaceAll(strings.ToLower(name), "s", "\u017f")} {
			for _, w := range []api.Word{atom(s), quoted(s), literal(s), {Kind: api.WordList, Text: s}, {Kind: api.WordBracket, Text: s}, {Text: s}} {
				lookAtRead(t, append([]api.Word{w}, args...), 0)
			}
		}
		right := append([]api.Word{atom(name)}, args...)
		if e := lookAtRead(t, right, 0); e != api.OK {
			t.Errorf("Read(%s): %d", told(right), e)
		}
		for n := range right {
			if e := lookAtRead(t, right[:n], 0); e != api.ErrKey {
				t.Errorf("Read(%s): %d", told(right[:n]), e)
			}
			lookAtRead(t, []api.Word{list(right[:n]...)}, 0)
			lookAtRead(t, append([]api.Word{list(right[:n]...)}, right[n:]...), 0)
			glued := slices.Clone(right)
			glued[n].Glued = true
			for _, words := range [][]api.Word{glued, {list(glued...)}, {atom("NOT"), list(glued...)}} {
				if e := lookAtRead(t, words, 0); e != api.ErrKey {
					t.Errorf("Read(%s): %d", told(words), e)
				}
			}
		}
		for _, w := range someWords() {
			lookAtRead(t, append(slices.Clone(right), w), 0)
			for i := range args {
				turned := slices.Clone(right)
				turned[1+i] = w
				lookAtRead(t, turned, 0)
			}
		}
	}
}

// P7.2: one word alone, of every kind.
func TestWordsAlone(t *testing.T) {
	for _, w := range someWords() {
		lookAtRead(t, []api.Word{w}, 0)
		lookAtRead(t, []api.Word{list(w)}, 0)
		lookAtRead(t, []api.Word{atom("ALL"), w}, 0)
		w.Glued = true
		for _, words := range [][]api.Word{{w}, {list(w)}, {atom("ALL"), w}, {atom("NOT"), w}} {
			if e := lookAtRead(t, words, 0); e != api.ErrKey {
				t.Errorf("Read(%.100s): %d", told(words), e)
			}
		}
	}
}

// P7.2: texts, keywords, days, numbers and sets with each byte.
func TestEachByteInArguments(t *testing.T) {
	for c := range 256 {
		b := string([]byte{byte(c)})
		for _, name := range []string{"SUBJECT", "KEYWORD", "ON", "LARGER", "UID"} {
			for _, s := range []string{b, "a" + b, "1" + b + "2", "1-Feb" + b + "2026"} {
				for _, w := range []api.Word{atom(s), quoted(s), literal(s)} {
					lookAtRead(t, []api.Word{atom(name), w}, 0)
				}
			}
		}
		lookAtRead(t, []api.Word{atom("AL" + b)}, 0)
		lookAtRead(t, []api.Word{atom(b)}, 0)
	}
}

// P7.2: sets at their bounds.
func TestLongSets(t *testing.T) {
	for _, n := range []int{63, 64, 65, 2047, 2048, 2049} {
		for _, piece := range []string{"1", "1:*", "4294967295:4294967295", "0"} {
			s := strings.TrimSuffix(strings.Repeat(piece+",", n), ",")
			lookAtRead(t, []api.Word{atom(s)}, 0)
			lookAtRead(t, []api.Word{atom("UID"), atom(s)}, 0)
		}
	}
}

// balanced is a tree of OR, as deep everywhere.
func balanced(deep int) []api.Word {
	if deep == 0 {
		return []api.Word{atom("ALL")}
	}
	return slices.Concat([]api.Word{atom("OR")}, balanced(deep-1), balanced(deep-1))
}

// P7.2: trees that are too great or too deep, and wrong words in them.
func TestGreatWords(t *testing.T) {
	row := func(n int, name string, more ...string) []api.Word {
		words := times(n, atom(name))
		for _, s := range more {
			words = append(words, atom(s))
		}
		return words
	}
	ors := func(n, keys int) []api.Word { return append(row(n, "OR"), row(keys, "ALL")...) }
	for name, c := range map[string]struct {
		words []api.Word
		want  api.Errno
	}{
		"8 NOT":                     {row(8, "NOT", "ALL"), api.OK},
		"9 NOT":                     {row(9, "NOT", "ALL"), api.ErrKeys},
		"9 NOT, one of them in ( )": {append(row(8, "NOT"), list(row(1, "NOT", "ALL")...)), api.ErrKeys},
		"8 NOT and an empty list":   {append(row(8, "NOT"), list()), api.ErrKey},
		"9 NOT and nothing":         {row(9, "NOT"), api.ErrKey},
		"500 NOT":                   {row(500, "NOT", "ALL"), api.ErrKeys},
		"500 NOT and nothing":       {row(500, "NOT"), api.ErrKey},
		"500 NOT and a name":        {row(500, "NOT", "SUBJECT"), api.ErrKey},
		"500 NOT and a set":         {row(500, "NOT", "1:*"), api.ErrKeys},
		"500 NOT and a wrong set":   {row(500, "NOT", "1:"), api.ErrKey},
		"31 ALL":                    {row(31, "ALL"), api.OK},
		"32 ALL":                    {row(32, "ALL"), api.ErrKeys},
		"33 ALL":                    {row(33, "ALL"), api.ErrKeys},
		"31 ALL in ( )":             {[]api.Word{list(row(31, "ALL")...)}, api.OK},
		"31 ALL in (( ))":           {[]api.Word{list(list(row(31, "ALL")...))}, api.OK},
		"32 ALL in ( )":             {[]api.Word{list(row(32, "ALL")...)}, api.ErrKeys},
		"32 ALL, each in ( )":       {times(32, list(atom("ALL"))), api.ErrKeys},
		"31 ALL, each in ( )":       {times(31, list(atom("ALL"))), api.OK},
		"40 ALL and a wrong name":   {row(40, "ALL", "X"), api.ErrKey},
		"40 ALL and an empty list":  {append(row(40, "ALL"), list()), api.ErrKey},
		"40 ALL and a list":         {append(row(40, "ALL"), list(atom("SEEN"))), api.ErrKeys},
		"40 ALL and a wrong list":   {append(row(40, "ALL"), list(atom("SEEN"), atom("X"))), api.ErrKey},
		"40 ALL and a glued list":   {append(row(40, "ALL"), api.Word{Kind: api.WordList, Kids: row(1, "ALL"), Glued: true}), api.ErrKey},
		"40 ALL and a glued name":   {append(row(40, "ALL"), api.Word{Kind: api.WordAtom, Text: "ALL", Glued: true}), api.ErrKey},
		"40 ALL and NOT":            {row(40, "ALL", "NOT"), api.ErrKey},
		"40 ALL and NOT ALL":        {row(40, "ALL", "NOT", "ALL"), api.ErrKeys},
		"40 ALL and OR ALL":         {row(40, "ALL", "OR", "ALL"), api.ErrKey},
		"40 ALL and OR ALL ALL":     {row(40, "ALL", "OR", "ALL", "ALL"), api.ErrKeys},
		"40 ALL and OR (ALL)":       {append(row(40, "ALL", "OR"), list(atom("ALL"))), api.ErrKey},
		"40 ALL and OR (ALL) ALL":   {append(row(40, "ALL", "OR"), list(atom("ALL")), atom("ALL")), api.ErrKeys},
		"40 ALL and OR (ALL) X":     {append(row(40, "ALL", "OR"), list(atom("ALL")), atom("X")), api.ErrKey},
		"40 ALL and NOT (ALL)":      {append(row(40, "ALL", "NOT"), list(atom("ALL"))), api.ErrKeys},
		"32 keys, no KeyAnd":        {append(row(1, "NOT"), balanced(4)...), api.OK},
		"33 keys, no KeyAnd":        {append(row(2, "NOT"), balanced(4)...), api.ErrKeys},
		"40 ALL and a long text":    {append(row(40, "ALL", "TEXT"), literal(strings.Repeat("x", 16385))), api.ErrKey},
		"40 ALL and a text":         {append(row(40, "ALL", "TEXT"), literal(strings.Repeat("x", 16384))), api.ErrKeys},
		"a long text and 40 ALL":    {append([]api.Word{atom("TEXT"), literal(strings.Repeat("x", 16385))}, row(40, "ALL")...), api.ErrKey},
		"a long text":               {[]api.Word{atom("TEXT"), literal(strings.Repeat("x", 16385))}, api.ErrKey},
		"4 OR":                      {ors(4, 5), api.OK},
		"8 OR":                      {ors(8, 9), api.OK},
		"9 OR":                      {ors(9, 10), api.ErrKeys},
		"9 OR, one ALL missing":     {ors(9, 9), api.ErrKey},
		"9 OR, one ALL more":        {ors(9, 11), api.ErrKeys},
		"200 OR":                    {ors(200, 201), api.ErrKeys},
		"200 OR, one ALL missing":   {ors(200, 200), api.ErrKey},
		"200 OR, one ALL more":      {ors(200, 202), api.ErrKeys},
	} {
		if e := lookAtRead(t, c.words, 0); e != c.want {
			t.Errorf("%s: Read: %d, not %d", name, e, c.want)
		}
		lookAtRead(t, []api.Word{atom("NOT"), list(c.words...)}, 0)
	}
}

// someLine is random words, most of them keys; some of the lines have words of any kind among them.
func someLine(r *rand.Rand, deep int, isWild bool) []api.Word {
	names := slices.Sorted(maps.Keys(table))
	var words []api.Word
	for range oneOf(r, 1, 1, 1, 2, 3, 5, 9) {
		switch kind := r.IntN(12); {
		case kind < 4 && deep > 0:
			words = append(words, list(someLine(r, deep-1, isWild)...))
		case kind < 6:
			words = append(words, oneOf(r, []api.Word{atom("NOT")}, []api.Word{atom("not")}, []api.Word{atom("oR"), atom("SEEN")})...)
			words = append(words, atom("ALL"))
		case kind < 7:
			words = append(words, atom(oneOf(r, "1", "2:4", "*", "1,3:*")))
		case kind < 8 && isWild:
			words = append(words, oneOf(r, someWords()...))
		default:
			name := oneOf(r, names...)
			words = append(append(words, atom(oneOf(r, name, mixed(name)))), rightArgs(table[name].args)...)
		}
	}
	if isWild && r.IntN(9) == 0 {
		words[r.IntN(len(words))].Glued = true
	}
	return words
}

// P7.2, P7.7: words of many kinds.
func TestWordsOfManyKinds(t *testing.T) {
	r := rand.New(rand.NewPCG(7, 2))
	had := map[api.Errno]int{}
	for range 1500 {
		words := someLine(r, r.IntN(5), r.IntN(3) == 0)
		had[lookAtRead(t, words, 0)]++
		lookAtRead(t, words, r.IntN(len(words)+1))
	}
	for _, e := range []api.Errno{api.OK, api.ErrKey, api.ErrKeys} {
		if had[e] < 100 {
			t.Errorf("%d lines of %d", had[e], e)
		}
	}
}
