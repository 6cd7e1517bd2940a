package search_test

import (
	"fmt"
	"math/rand/v2"
	"regexp"
	"strings"
	"testing"
	"time"

	"postbag/api"
	"postbag/lex"
	"postbag/search"
)

var canQuote = regexp.MustCompile(`^[\x01-\x09\x0b\x0c\x0e-\x7f]*$`)

// textTold is a text as told shows it.
func textTold(s string) string {
	if canQuote.MatchString(s) {
		return fmt.Sprintf("%q", s)
	}
	return fmt.Sprintf("{%q}", s)
}

func setTold(set []api.Range) string {
	var pieces []string
	for _, p := range set {
		piece := fmt.Sprintf("%d:%d", p.From, p.To)
		if p.From == p.To {
			piece = fmt.Sprint(p.From)
		}
		pieces = append(pieces, regexp.MustCompile(`\b0\b`).ReplaceAllString(piece, "*"))
	}
	return strings.Join(pieces, ",")
}

// keyTold is a key's words as told shows them, by the names of the table.
func keyTold(k api.Key, isWhole bool) string {
	var kids []string
	for _, kid := range k.Kids {
		kids = append(kids, keyTold(kid, false))
	}
	switch {
	case k.Kind == api.KeyAnd && isWhole:
		return strings.Join(kids, " ")
	case k.Kind == api.KeyAnd:
		return "(" + strings.Join(kids, " ") + ")"
	case k.Kind == api.KeySet:
		return setTold(k.Set)
	}
	args := map[rune]string{'f': textTold(k.Field), 't': textTold(k.Text), 'w': k.Text, 'n': fmt.Sprint(k.Num), 's': setTold(k.Set)}
	args['d'] = time.Date(k.Day.Year, time.Month(k.Day.Month), k.Day.Day, 0, 0, 0, 0, time.UTC).Format("2-Jan-2006")
	for name, g := range table {
		isFlag := g.flag == k.Text || g.flag == "" && !strings.HasPrefix(k.Text, `\`)
		if g.kind != k.Kind || !isFlag && (k.Kind == api.KeyFlag || k.Kind == api.KeyUnflag) {
			continue
		}
		out := []string{name}
		for _, as := range strings.ReplaceAll(g.args, "k", "") {
			out = append(out, args[as])
		}
		return strings.Join(append(out, kids...), " ")
	}
	return "no key"
}

// lookAtPrint: P7.3, P7.7, W3, W6.
func lookAtPrint(t *testing.T, k api.Key) {
	t.Helper()
	in := roomy(k)
	before := shown(in)
	words, e := search.Print(in)
	if want := checked(k); e != want {
		t.Errorf("Print(%.300s): %d, not %d", shown(k), e, want)
	}
	if e != api.OK {
		if len(words) > 0 {
			t.Errorf("Print(%.300s): %s beside %d", shown(k), told(words), e)
		}
		return
	}
	if got, want := told(words), keyTold(k, true); got != want {
		t.Errorf("Print(%.300s): %.300s, not %.300s", shown(k), got, want)
	}
	if back, e := search.Read(words, 0); e != api.OK || !isSame(back, k) {
		t.Errorf("Read of Print(%.300s): %.300s, %d", shown(k), shown(back), e)
	}
	lookAtRooms(t, "Print", in, words)
	scribbleWords(words)
	if words, e := search.Print(in); e != api.OK || told(words) != keyTold(k, true) {
		t.Errorf("Print(%.300s) behind writing upon its answer: %.300s, %d", shown(k), told(words), e)
	}
	if shown(in) != before {
		t.Errorf("Print(%.300s) changes it", before)
	}
}

// P7.3: the examples, and others in their way.
func TestPrintedKeys(t *testing.T) {
	for s, want := range map[string]string{
		`unseen from Joe 2:4`:                `UNSEEN FROM "Joe" 2:4`,
		`(SEEN)`:                             `SEEN`,
		`or (new) not (1 uid 5:*)`:           `OR NEW NOT (1 UID 5:*)`,
		`before "01-feb-2026"`:               `BEFORE 1-Feb-2026`,
		`keyword Work unkeyword nil`:         `KEYWORD Work UNKEYWORD nil`,
		`keyword Seen seen`:                  `KEYWORD Seen SEEN`,
		`((all all) (seen))`:                 `(ALL ALL) SEEN`,
		`((all all))`:                        `ALL ALL`,
		`not ((all all))`:                    `NOT (ALL ALL)`,
		`not (((all) seen) all)`:             `NOT ((ALL SEEN) ALL)`,
		`or (all all) (old (new recent))`:    `OR (ALL ALL) (OLD (NEW RECENT))`,
		`larger 0 smaller 10 modseq 2`:       `LARGER 0 SMALLER 10 MODSEQ 2`,
		`5:5,*:*,*:3,4:2`:                    `5,*,*:3,4:2`,
		`header x-a "" subject "nil"`:        `HEADER "x-a" "" SUBJECT "nil"`,
		`senton 31-dec-9999`:                 `SENTON 31-Dec-9999`,
		`bcc a cc b to c body d text e`:      `BCC "a" CC "b" TO "c" BODY "d" TEXT "e"`,
		`undraft unflagged answered deleted`: `UNDRAFT UNFLAGGED ANSWERED DELETED`,
	} {
		k := read(t, s)
		words, e := search.Print(k)
		if got, literals, f := lex.Join(words); e != api.OK || f != api.OK || got != want || len(literals) > 0 {
			t.Errorf("Print of %q: %q, %d", s, got, e)
		}
		lookAtPrint(t, k)
	}
}

// P7.3: every kind, alone and within others.
func TestEachKindPrinted(t *testing.T) {
	for _, k := range rightKeys() {
		for _, k := range []api.Key{k, not(k), or(k, all()), or(all(), k), and(k, all()), and(all(), k), not(and(k, k)), and(and(k, all()), all())} {
			lookAtPrint(t, k)
		}
	}
}

// P7.3: texts of each byte.
func TestPrintedTexts(t *testing.T) {
	for c := range 256 {
		b := string([]byte{byte(c)})
		for _, s := range []string{b, "a" + b, b + "a", "a" + b + "\x00", b + `"\`} {
			words, e := search.Print(header(s, "x"+s))
			kind := api.WordQuoted
			if c == 0 || c == 10 || c == 13 || c > 127 || strings.Contains(s, "\x00") {
				kind = api.WordLiteral
			}
			if e != api.OK || len(words) != 3 || words[1].Kind != kind || words[2].Kind != kind || words[1].Text != s || words[2].Text != "x"+s {
				t.Errorf("Print of %q: %s, %d", s, told(words), e)
			}
			lookAtPrint(t, header(s, ""))
			lookAtPrint(t, text(api.KeyText, s))
		}
	}
	lookAtPrint(t, text(api.KeyText, strings.Repeat("x", api.MaxLiteral)))
	lookAtPrint(t, text(api.KeyText, strings.Repeat("\x00", api.MaxLiteral)))
	lookAtPrint(t, text(api.KeyText, strings.Repeat("x", api.MaxLiteral+1)))
}

// P7.3: sets and numbers of many digits, all bounds at once.
func TestPrintedBounds(t *testing.T) {
	lookAtPrint(t, set(api.KeySet, times(128, api.MaxNumber)...))
	lookAtPrint(t, set(api.KeyUid, times(128, 0)...))
	var ends []int
	for i := range api.MaxRanges {
		ends = append(ends, api.MaxNumber-i, i)
	}
	lookAtPrint(t, set(api.KeyUid, ends...))
	lookAtPrint(t, number(api.KeyModseq, api.MaxNumber))
	lookAtPrint(t, and(times(31, header("a", "b"))...))
	lookAtPrint(t, and(times(31, set(api.KeyUid, ends...))...))
	lookAtPrint(t, nots(8, all()))
	lookAtPrint(t, nots(7, and(all(), all())))
}

// P7.3: a key that Check refuses.
func TestKeysThatAreNotPrinted(t *testing.T) {
	for _, c := range []struct {
		key  api.Key
		want api.Errno
	}{
		{api.Key{}, api.ErrKey}, {and(all()), api.ErrKey}, {and(), api.ErrKey}, {unflag(`\Recent`), api.ErrKey}, {flag(`\seen`), api.ErrKey}, {api.Key{Kind: api.KeyAll, Num: 1}, api.ErrKey}, {not(and(all(), api.Key{Kind: 28})), api.ErrKey},
		{nots(9, all()), api.ErrKeys}, {and(times(32, all())...), api.ErrKeys}, {and(append(times(32, all()), api.Key{})...), api.ErrKey}, {set(api.KeySet), api.ErrKey}, {number(api.KeyLarger, -1), api.ErrKey},
	} {
		if words, e := search.Print(c.key); e != c.want || len(words) > 0 {
			t.Errorf("Print(%.100s): %s, %d", shown(c.key), told(words), e)
		}
		lookAtPrint(t, c.key)
	}
}

// P7.3, P7.5, P7.7: trees of many kinds.
func TestPrintedTreesOfManyKinds(t *testing.T) {
	r := rand.New(rand.NewPCG(7, 3))
	for range 1000 {
		k := someKey(r, r.IntN(9))
		lookAtPrint(t, k)
		if search.Check(k) != api.OK {
			continue
		}
		words, _ := search.Print(k)
		for range r.IntN(4) {
			words = []api.Word{list(words...)}
		}
		if back, e := search.Read(words, 0); e != api.OK || !isSame(back, k) {
			t.Errorf("Read(%.300s): %.300s, %d", told(words), shown(back), e)
		}
	}
}
