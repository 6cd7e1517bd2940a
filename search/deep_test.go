package search_test

import (
	"slices"
	"strings"
	"testing"

	"postbag/api"
	"postbag/search"
)

const (
	deepest = 1<<16 - 10
	many    = 100000
)

// inLists is a word in lists, one in the other, behind others in each.
func inLists(n int, w api.Word, ahead ...string) api.Word {
	var first []api.Word
	for _, s := range ahead {
		first = append(first, atom(s))
	}
	for range n {
		w = list(append(slices.Clip(first), w)...)
	}
	return w
}

// P7.7: lists of one key, one in the other, are that key.
func TestDeepListsOfOneKey(t *testing.T) {
	for _, n := range []int{1, 2, 9, 33, 1000, deepest} {
		for _, c := range []struct {
			word api.Word
			want api.Key
		}{{atom("SEEN"), flag(`\Seen`)}, {list(atom("SEEN"), atom("ALL")), and(flag(`\Seen`), all())}, {list(atom("NOT"), list(atom("1"))), not(set(api.KeySet, 1, 1))}} {
			if k, e := search.Read([]api.Word{inLists(n, c.word)}, 0); e != api.OK || !isSame(k, c.want) {
				t.Errorf("%d lists: %s, %d", n, shown(k), e)
			}
			if k, e := search.Read([]api.Word{atom("NOT"), inLists(n, c.word), atom("ALL")}, 0); e != api.OK || !isSame(k, and(not(c.want), all())) {
				t.Errorf("%d lists behind NOT: %s, %d", n, shown(k), e)
			}
		}
	}
}

// P7.2, P7.7: deep and broad words, right and wrong.
func TestDeepAndBroadWords(t *testing.T) {
	row := func(names ...string) []api.Word {
		var words []api.Word
		for range many {
			for _, name := range names {
				words = append(words, atom(name))
			}
		}
		return words
	}
	broad := func(words ...api.Word) []api.Word { return []api.Word{list(words...)} }
	for name, c := range map[string]struct {
		words []api.Word
		want  api.Errno
	}{
		"lists around nothing":        {[]api.Word{inLists(deepest, list())}, api.ErrKey},
		"lists around a wrong name":   {[]api.Word{inLists(deepest, atom("X"))}, api.ErrKey},
		"lists of two keys":           {[]api.Word{inLists(deepest, atom("ALL"), "ALL")}, api.ErrKeys},
		"lists of two keys, none":     {[]api.Word{inLists(deepest, list(), "ALL")}, api.ErrKey},
		"lists of two keys, wrong":    {[]api.Word{inLists(deepest, atom("1:"), "ALL")}, api.ErrKey},
		"NOT in lists":                {[]api.Word{inLists(deepest, atom("ALL"), "NOT")}, api.ErrKeys},
		"NOT in lists, nothing":       {[]api.Word{inLists(deepest, list(), "NOT")}, api.ErrKey},
		"OR in lists":                 {[]api.Word{inLists(deepest, atom("ALL"), "OR", "SEEN")}, api.ErrKeys},
		"OR in lists, one missing":    {[]api.Word{inLists(deepest, atom("ALL"), "OR")}, api.ErrKey},
		"a row of ALL":                {broad(row("ALL")...), api.ErrKeys},
		"a row of ALL, a wrong one":   {broad(append(row("ALL"), quoted("ALL"))...), api.ErrKey},
		"a row of NOT":                {broad(row("NOT")...), api.ErrKey},
		"a row of NOT, ALL":           {broad(append(row("NOT"), atom("ALL"))...), api.ErrKeys},
		"a row of NOT, an empty list": {broad(append(row("NOT"), list())...), api.ErrKey},
		"a row of OR":                 {broad(row("OR")...), api.ErrKey},
		"rows of OR and ALL":          {broad(slices.Concat(row("OR"), row("ALL"), []api.Word{atom("ALL")})...), api.ErrKeys},
		"rows of OR and ALL, one out": {broad(slices.Concat(row("OR"), row("ALL"))...), api.ErrKey},
		"a row of OR ALL":             {broad(append(row("OR", "ALL"), atom("ALL"))...), api.ErrKeys},
		"a row of OR ALL, one out":    {broad(row("OR", "ALL")...), api.ErrKey},
		"a row of SUBJECT":            {broad(row("SUBJECT")...), api.ErrKeys},
		"a row of SUBJECT, one out":   {broad(append(row("SUBJECT"), atom("SUBJECT"))...), api.ErrKey},
		"a row of lists":              {broad(times(many, list(atom("ALL")))...), api.ErrKeys},
		"a row of lists, an empty":    {broad(append(times(many, list(atom("ALL"))), list())...), api.ErrKey},
		"a row of sets":               {broad(times(many, atom("1:*"))...), api.ErrKeys},
		"a long name":                 {[]api.Word{atom(strings.Repeat("N", 1<<22))}, api.ErrKey},
		"a long set":                  {[]api.Word{atom(strings.Repeat("1,", 1<<21) + "1")}, api.ErrKey},
		"a long text":                 {[]api.Word{atom("TEXT"), atom(strings.Repeat("x", 1<<22))}, api.ErrKey},
	} {
		if k, e := search.Read(c.words, 0); e != c.want || k.Kind != 0 {
			t.Errorf("%s: Read: %d, not %d", name, e, c.want)
		}
	}
}

// P7.2, P7.7: rows of NOT and OR that are longer than a stack is deep.
func TestLongRows(t *testing.T) {
	words := times(2000000, atom("NOT"))
	if _, e := search.Read([]api.Word{list(words...)}, 0); e != api.ErrKey {
		t.Errorf("a row of NOT: %d", e)
	}
	words[len(words)-1] = atom("ALL")
	if _, e := search.Read([]api.Word{list(words...)}, 0); e != api.ErrKeys {
		t.Errorf("a row of NOT, ALL: %d", e)
	}
	for i := range words[:len(words)-1] {
		words[i].Text = []string{"OR", "ALL"}[i%2]
	}
	if _, e := search.Read([]api.Word{list(words...)}, 0); e != api.ErrKey {
		t.Errorf("a row of OR ALL, one out: %d", e)
	}
	words[len(words)-2] = atom("ALL")
	if _, e := search.Read([]api.Word{list(words...)}, 0); e != api.ErrKeys {
		t.Errorf("a row of OR ALL: %d", e)
	}
}

// P7.1, P7.3, P7.4, P7.7: deep and broad trees, right and wrong.
func TestDeepAndBroadKeys(t *testing.T) {
	ands, ors := all(), all()
	for range deepest {
		ands, ors = and(all(), ands), or(ors, all())
	}
	wrong := unflag(`\Recent`)
	long := strings.Repeat("x", 1<<22)
	for name, c := range map[string]struct {
		key  api.Key
		want api.Errno
	}{
		"KeyNots":                   {nots(deepest, all()), api.ErrKeys},
		"KeyNots of a wrong one":    {nots(deepest, wrong), api.ErrKey},
		"KeyNots of none":           {nots(deepest, api.Key{Kind: api.KeyNot}), api.ErrKey},
		"KeyAnds":                   {ands, api.ErrKeys},
		"KeyAnds and a wrong one":   {and(ands, wrong), api.ErrKey},
		"KeyOrs":                    {ors, api.ErrKeys},
		"KeyOrs and a wrong one":    {or(ors, wrong), api.ErrKey},
		"a broad KeyAnd":            {and(times(many, all())...), api.ErrKeys},
		"a broad KeyAnd, one wrong": {and(append(times(many, all()), wrong)...), api.ErrKey},
		"a broad KeyOr":             {api.Key{Kind: api.KeyOr, Kids: times(many, all())}, api.ErrKey},
		"a broad KeyAnd of KeyAnds": {and(times(500, and(times(200, flag("x"))...))...), api.ErrKeys},
		"a broad set":               {set(api.KeySet, times(many, 1)...), api.ErrKey},
		"a long text":               {text(api.KeyText, long), api.ErrKey},
		"a long keyword":            {flag(long), api.ErrKey},
		"a long field":              {header(long, ""), api.ErrKey},
	} {
		if e := search.Check(c.key); e != c.want {
			t.Errorf("%s: Check: %d, not %d", name, e, c.want)
		}
		if words, e := search.Print(c.key); e != c.want || len(words) > 0 {
			t.Errorf("%s: Print: %d, not %d", name, e, c.want)
		}
		if search.Holds(c.key, api.Mail{Flags: []string{"x"}}, api.Last{Seq: 1}) {
			t.Errorf("%s: Holds", name)
		}
	}
}

// P7.7: any Raw, any flags.
func TestLongMessages(t *testing.T) {
	for _, s := range []string{"a: b\n", "\n", " ", "x", "a:\n ", ":", "subject: x\n\n", "Date: (\n", "\x00"} {
		m := raw(strings.Repeat(s, many))
		m.Flags = times(many, `\Seen`)
		for _, c := range []struct {
			key  api.Key
			want bool
		}{
			{text(api.KeySubject, "X"), s == "subject: x\n\n"}, {header("A", "b"), s == "a: b\n"}, {header("a", ""), s[0] == 'a'}, {text(api.KeyBody, "X"), s == "subject: x\n\n"}, {text(api.KeyBody, "\r\n"), strings.HasSuffix(s, "\n") && s[0] != 'a' && s[0] != 'D'},
			{text(api.KeyText, strings.Repeat("x", api.MaxLiteral)), s == "x"}, {text(api.KeyText, strings.Repeat("x", api.MaxLiteral-1)+"y"), false}, {day(api.KeySentOn, 2026, 2, 1), false}, {day(api.KeySentSince, 1, 1, 1), false},
			{number(api.KeyLarger, many-1), true}, {number(api.KeySmaller, many), false}, {flag(`\Draft`), false}, {flag(`\Seen`), true}, {unflag("x"), true}, {api.Key{Kind: api.KeyNew}, false},
		} {
			if search.Holds(c.key, m, api.Last{}) != c.want {
				t.Errorf("Holds(%.100s) of many %q", shown(c.key), s)
			}
		}
	}
}
