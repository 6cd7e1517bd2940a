package search_test

import (
	"fmt"
	"math/rand/v2"
	"reflect"
	"slices"
	"strings"
	"testing"

	"postbag/api"
	"postbag/lex"
	"postbag/search"
)

const (
	end   = "\r\n"
	least = -1 << 63
	most  = 1<<63 - 1
)

func and(kids ...api.Key) api.Key { return api.Key{Kind: api.KeyAnd, Kids: kids} }

func or(a, b api.Key) api.Key { return api.Key{Kind: api.KeyOr, Kids: []api.Key{a, b}} }

func not(k api.Key) api.Key { return api.Key{Kind: api.KeyNot, Kids: []api.Key{k}} }

func all() api.Key { return api.Key{Kind: api.KeyAll} }

func text(kind int, s string) api.Key { return api.Key{Kind: kind, Text: s} }

func flag(s string) api.Key { return text(api.KeyFlag, s) }

func unflag(s string) api.Key { return text(api.KeyUnflag, s) }

func header(field, s string) api.Key { return api.Key{Kind: api.KeyHeader, Field: field, Text: s} }

func number(kind, n int) api.Key { return api.Key{Kind: kind, Num: n} }

func day(kind, year, month, day int) api.Key {
	return api.Key{Kind: kind, Day: api.Moment{Year: year, Month: month, Day: day}}
}

func set(kind int, ends ...int) api.Key {
	k := api.Key{Kind: kind}
	for i := 0; i < len(ends); i += 2 {
		k.Set = append(k.Set, api.Range{From: ends[i], To: ends[i+1]})
	}
	return k
}

// nots is a key in many KeyNots.
func nots(n int, k api.Key) api.Key {
	for range n {
		k = not(k)
	}
	return k
}

// times is a list of equal elements.
func times[E any](n int, e E) []E { return slices.Repeat([]E{e}, n) }

func atom(s string) api.Word { return api.Word{Kind: api.WordAtom, Text: s} }

func quoted(s string) api.Word { return api.Word{Kind: api.WordQuoted, Text: s} }

func literal(s string) api.Word { return api.Word{Kind: api.WordLiteral, Text: s} }

func list(words ...api.Word) api.Word { return api.Word{Kind: api.WordList, Kids: words} }

// line is the words of a line.
func line(t *testing.T, s string) []api.Word {
	t.Helper()
	words, e := lex.Scan(s, nil)
	if e != api.OK {
		t.Fatalf("%q: %d", s, e)
	}
	return words
}

// read is the key of a line.
func read(t *testing.T, s string) api.Key {
	t.Helper()
	k, e := search.Read(line(t, s), 0)
	if e != api.OK {
		t.Fatalf("Read(%q): %d", s, e)
	}
	return k
}

func oneOf[E any](r *rand.Rand, l ...E) E { return l[r.IntN(len(l))] }

// bare is a key with nil for every empty list, so that DeepEqual sees its elements alone.
func bare(k api.Key) api.Key {
	kids := k.Kids
	k.Set, k.Kids = append([]api.Range(nil), k.Set...), nil
	for _, kid := range kids {
		k.Kids = append(k.Kids, bare(kid))
	}
	return k
}

func isSame(a, b api.Key) bool { return reflect.DeepEqual(bare(a), bare(b)) }

// told is words as a text that shows their kinds.
func told(words []api.Word) string {
	var out strings.Builder
	for i, w := range words {
		if i > 0 {
			out.WriteByte(' ')
		}
		if w.Glued {
			out.WriteString("glued:")
		}
		switch w.Kind {
		case api.WordAtom:
			out.WriteString(w.Text)
		case api.WordQuoted:
			fmt.Fprintf(&out, "%q", w.Text)
		case api.WordLiteral:
			fmt.Fprintf(&out, "{%q}", w.Text)
		case api.WordList:
			out.WriteString("(" + told(w.Kids) + ")")
		default:
			fmt.Fprintf(&out, "?%d", w.Kind)
		}
		if w.Kind != api.WordList && len(w.Kids) > 0 || w.Kind == api.WordList && w.Text != "" {
			out.WriteString("!more!")
		}
	}
	return out.String()
}

// room is the memory of a list, its spare room too.
type room struct{ from, to uintptr }

// rooms is the memory of all lists in a value.
func rooms(v reflect.Value) []room {
	var all []room
	switch v.Kind() {
	case reflect.Struct:
		for i := range v.NumField() {
			all = append(all, rooms(v.Field(i))...)
		}
	case reflect.Slice:
		if size := uintptr(v.Cap()) * v.Type().Elem().Size(); size > 0 {
			all = append(all, room{v.Pointer(), v.Pointer() + size})
		}
		for i := range v.Len() {
			all = append(all, rooms(v.Index(i))...)
		}
	}
	return all
}

// lookAtRooms: W6: no two lists of what was handed in and answered share memory.
func lookAtRooms(t *testing.T, call string, values ...any) {
	t.Helper()
	var all []room
	for _, v := range values {
		all = append(all, rooms(reflect.ValueOf(v))...)
	}
	slices.SortFunc(all, func(a, b room) int {
		if a.from < b.from {
			return -1
		}
		return 1
	})
	for i := 1; i < len(all); i++ {
		if all[i].from < all[i-1].to {
			t.Errorf("%s: two lists share memory", call)
			return
		}
	}
}

// spacious is a list with spare room behind its end, which has elements too.
func spacious[E any](l []E) []E { return slices.Concat(l, l, make([]E, 2))[:len(l)] }

// roomy is a key whose lists all have spare room.
func roomy(k api.Key) api.Key {
	k.Set, k.Kids = spacious(k.Set), spacious(k.Kids)
	for i, kid := range k.Kids {
		k.Kids[i] = roomy(kid)
	}
	return k
}

func roomyWords(words []api.Word) []api.Word {
	words = spacious(words)
	for i := range words {
		words[i].Kids = roomyWords(words[i].Kids)
	}
	return words
}

// shown is a key as it stands in memory, the spare room of its lists too.
func shown(k api.Key) string {
	var out strings.Builder
	show(&out, k)
	return out.String()
}

func show(out *strings.Builder, k api.Key) {
	fmt.Fprintf(out, "%d <%s> <%s> %v %v %d [", k.Kind, k.Text, k.Field, k.Set[:cap(k.Set)], k.Day, k.Num)
	for _, kid := range k.Kids[:cap(k.Kids)] {
		show(out, kid)
	}
	out.WriteByte(']')
}

// shownWords is words as they stand in memory, spare room too.
func shownWords(words []api.Word) string {
	var out strings.Builder
	showWords(&out, words)
	return out.String()
}

func showWords(out *strings.Builder, words []api.Word) {
	out.WriteByte('[')
	for _, w := range words[:cap(words)] {
		fmt.Fprintf(out, "%d <%s> %v", w.Kind, w.Text, w.Glued)
		showWords(out, w.Kids)
	}
	out.WriteByte(']')
}

// scribble writes upon all lists of a key, their spare room too.
func scribble(k api.Key) {
	for _, kid := range k.Kids {
		scribble(kid)
	}
	for i := range k.Kids[:cap(k.Kids)] {
		k.Kids[:cap(k.Kids)][i] = api.Key{Kind: 99, Text: "scribbled"}
	}
	for i := range k.Set[:cap(k.Set)] {
		k.Set[:cap(k.Set)][i] = api.Range{From: 77, To: 88}
	}
}

func scribbleWords(words []api.Word) {
	for _, w := range words {
		scribbleWords(w.Kids)
	}
	for i := range words[:cap(words)] {
		words[:cap(words)][i] = api.Word{Kind: 99, Text: "scribbled", Glued: true}
	}
}

var (
	flags    = []string{`\Answered`, `\Deleted`, `\Draft`, `\Flagged`, `\Seen`}
	keywords = []string{"work", "Work", "$Junk", "nil", "Seen", "x", strings.Repeat("k", api.MaxKeyword)}
	texts    = []string{"", "a", "Hello", "hello world", "x-a", "\"q\\", "é", "\x00", "a\r\nb", "\xff\x7f", "NIL", "3", end, strings.Repeat("long ", 60)}
	fields   = []string{"Subject", "x-a", "X-A", "date", "", "a b", "Received", "a:"}
	sets     = [][]int{{1, 1}, {0, 0}, {5, 0}, {0, 5}, {2, 4}, {4, 2}, {1, 1, 3, 3, 9, 0}, {api.MaxNumber, 1}, {7, 7, 7, 7}}
)

// someLeaf is a random key that has none below it.
func someLeaf(r *rand.Rand) api.Key {
	switch kind := 4 + r.IntN(api.KeyModseq-3); kind {
	case api.KeySet, api.KeyUid:
		return set(kind, oneOf(r, sets...)...)
	case api.KeyFlag:
		return flag(oneOf(r, oneOf(r, flags...), oneOf(r, keywords...), `\Recent`))
	case api.KeyUnflag:
		return unflag(oneOf(r, oneOf(r, flags...), oneOf(r, keywords...)))
	case api.KeyHeader:
		return header(oneOf(r, fields...), oneOf(r, texts...))
	case api.KeyBcc, api.KeyBody, api.KeyCc, api.KeyFrom, api.KeySubject, api.KeyText, api.KeyTo:
		return text(kind, oneOf(r, texts...))
	case api.KeyBefore, api.KeyOn, api.KeySince, api.KeySentBefore, api.KeySentOn, api.KeySentSince:
		return day(kind, oneOf(r, 1, 1969, 2026, 2026, 2026, 9999), 1+r.IntN(2), 1+r.IntN(4))
	case api.KeyLarger, api.KeySmaller, api.KeyModseq:
		return number(kind, oneOf(r, 0, 1, 4, 30, 40, 90, api.MaxNumber))
	default:
		return api.Key{Kind: kind}
	}
}

// someKey is a random tree, some of them too great.
func someKey(r *rand.Rand, deep int) api.Key {
	if deep > 0 {
		switch r.IntN(6) {
		case 0:
			return not(someKey(r, deep-1))
		case 1:
			return or(someKey(r, deep-1), someKey(r, deep-1))
		case 2:
			k := and(someKey(r, deep-1), someKey(r, deep-1))
			for range r.IntN(3) {
				k.Kids = append(k.Kids, someKey(r, deep-1))
			}
			return k
		}
	}
	return someLeaf(r)
}

// someFit is a random tree that may be.
func someFit(r *rand.Rand) api.Key {
	for {
		if k := someKey(r, r.IntN(10)); search.Check(k) == api.OK {
			return k
		}
	}
}

// places is all keys of a tree.
func places(k *api.Key) []*api.Key {
	all := []*api.Key{k}
	for i := range k.Kids {
		all = append(all, places(&k.Kids[i])...)
	}
	return all
}
