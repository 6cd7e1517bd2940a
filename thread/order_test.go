package thread_test

import (
	"fmt"
	"math/rand/v2"
	"reflect"
	"regexp"
	"slices"
	"sort"
	"strings"
	"testing"

	"postbag/api"
	"postbag/lex"
	"postbag/thread"
)

func atom(s string) api.Word { return api.Word{Kind: api.WordAtom, Text: s} }

func list(words ...api.Word) api.Word { return api.Word{Kind: api.WordList, Kids: words} }

// atoms is a list of a line's words.
func atoms(line string) api.Word {
	w := list()
	for _, s := range strings.Fields(line) {
		w.Kids = append(w.Kids, atom(s))
	}
	return w
}

var kinds = map[string]int{"ARRIVAL": 1, "CC": 2, "DATE": 3, "FROM": 4, "SIZE": 5, "SUBJECT": 6, "TO": 7}

var keyRow = regexp.MustCompile(`^((REVERSE )?(ARRIVAL|CC|DATE|FROM|SIZE|SUBJECT|TO) )+$`)
var oneKey = regexp.MustCompile(`(REVERSE )?(\w+) `)

// slowReadBy reads atoms by a pattern of the whole row.
func slowReadBy(words []string) ([]api.By, api.Errno) {
	if len(words) > 14 {
		return nil, api.ErrLong
	}
	row := ""
	for _, w := range words {
		row += strings.ToUpper(w) + " "
	}
	if !keyRow.MatchString(row) {
		return nil, api.ErrBy
	}
	var keys []api.By
	for _, m := range oneKey.FindAllStringSubmatch(row, -1) {
		keys = append(keys, api.By{Kind: kinds[m[2]], Reverse: m[1] != ""})
	}
	if len(keys) > 7 {
		return nil, api.ErrMany
	}
	return keys, api.OK
}

func lookAtBy(t *testing.T, w api.Word, want []api.By, wantErr api.Errno) {
	t.Helper()
	got, e := thread.ReadBy(w)
	if e != wantErr || !slices.Equal(got, want) || e != api.OK && got != nil {
		t.Errorf("ReadBy(%.300v): %v, %d, not %v, %d", w, got, e, want, wantErr)
	}
}

// P8.2: every key, with and without REVERSE, in any case.
func TestReadByKeys(t *testing.T) {
	r := rand.New(rand.NewPCG(8, 10))
	for name, kind := range kinds {
		for range 50 {
			word, reverse := inAnyCase(r, name), inAnyCase(r, "reverse")
			lookAtBy(t, atoms(word), []api.By{{Kind: kind}}, api.OK)
			lookAtBy(t, atoms(reverse+" "+word), []api.By{{Kind: kind, Reverse: true}}, api.OK)
			lookAtBy(t, atoms(word+" "+reverse+" "+word), []api.By{{Kind: kind}, {Kind: kind, Reverse: true}}, api.OK)
			lookAtBy(t, atoms(reverse+" "+word+" "+word), []api.By{{Kind: kind, Reverse: true}, {Kind: kind}}, api.OK)
			lookAtBy(t, atoms(word+" "+reverse), nil, api.ErrBy)
			lookAtBy(t, atoms(reverse+" "+reverse+" "+word), nil, api.ErrBy)
			lookAtBy(t, atoms(word+"s"), nil, api.ErrBy)
			lookAtBy(t, atoms(word[1:]), nil, api.ErrBy)
			lookAtBy(t, atoms(word[:len(word)-1]), nil, api.ErrBy)
			lookAtBy(t, list(atom(word+" ")), nil, api.ErrBy)
			lookAtBy(t, list(atom(reverse+" "+word)), nil, api.ErrBy)
		}
	}
}

func inAnyCase(r *rand.Rand, s string) string {
	b := []byte(strings.ToUpper(s))
	for i := range b {
		b[i] |= byte(r.IntN(2) * 32)
	}
	return string(b)
}

// P8.2, W8: no byte but a letter of ASCII stands for another one.
func TestReadByEachByte(t *testing.T) {
	for _, name := range []string{"REVERSE", "SIZE", "TO"} {
		for i := range name {
			for b := range 256 {
				word := name[:i] + string([]byte{byte(b)}) + name[i+1:]
				row, wantErr := list(atom(word), atom("CC")), api.ErrBy
				if b == int(name[i]) || b == int(name[i])+'a'-'A' {
					wantErr = api.OK
				}
				if _, e := thread.ReadBy(row); e != wantErr {
					t.Errorf("%q: %d, not %d", word, e, wantErr)
				}
			}
		}
	}
	lookAtBy(t, atoms("\u017fize"), nil, api.ErrBy)
}

// P8.2: rows of few words, all of them.
func TestReadByRows(t *testing.T) {
	words := []string{"reverse", "DATE", "to", "UID", "REVERSE", ""}
	var rows [][]string
	rows = append(rows, nil)
	for from := 0; len(rows) < 1+6+36+216+1296; from++ {
		for _, w := range words {
			rows = append(rows, append(slices.Clone(rows[from]), w))
		}
	}
	for _, row := range rows {
		w := list()
		for _, s := range row {
			w.Kids = append(w.Kids, atom(s))
		}
		keys, e := slowReadBy(row)
		lookAtBy(t, w, keys, e)
	}
}

// P8.2: long rows, around the bounds.
func TestReadByLong(t *testing.T) {
	r := rand.New(rand.NewPCG(8, 11))
	for range 20000 {
		n := r.IntN(18)
		w, row := list(), []string(nil)
		for len(row) < n {
			if r.IntN(3) == 0 {
				row = append(row, "Reverse")
			}
			row = append(row, oneOf(r, "date", "ARRIVAL", "cc", "From", "SIZE", "subject", "to"))
		}
		if len(row) > 0 && r.IntN(6) == 0 {
			row[r.IntN(len(row))] = oneOf(r, "uid", "reverse", "")
		}
		for _, s := range row {
			w.Kids = append(w.Kids, atom(s))
		}
		keys, e := slowReadBy(row)
		lookAtBy(t, w, keys, e)
	}
	lookAtBy(t, atoms(strings.Repeat("DATE ", 7)), times(7, api.By{Kind: api.ByDate}), api.OK)
	lookAtBy(t, atoms(strings.Repeat("DATE ", 8)), nil, api.ErrMany)
	lookAtBy(t, atoms(strings.Repeat("DATE ", 14)), nil, api.ErrMany)
	lookAtBy(t, atoms(strings.Repeat("DATE ", 15)), nil, api.ErrLong)
	lookAtBy(t, atoms(strings.Repeat("REVERSE DATE ", 7)), times(7, api.By{Kind: api.ByDate, Reverse: true}), api.OK)
	lookAtBy(t, atoms(strings.Repeat("REVERSE DATE ", 7)+"REVERSE"), nil, api.ErrLong)
	lookAtBy(t, atoms(strings.Repeat("DATE ", 13)+"REVERSE"), nil, api.ErrBy)
	lookAtBy(t, atoms(strings.Repeat("DATE ", 13)+"UID"), nil, api.ErrBy)
	lookAtBy(t, atoms(strings.Repeat("x ", 100000)), nil, api.ErrLong)
}

// P8.2: words that are no plain atoms; words that are no lists.
func TestReadByWords(t *testing.T) {
	for _, kid := range []api.Word{
		{Kind: api.WordQuoted, Text: "DATE"}, {Kind: api.WordLiteral, Text: "DATE"}, {Kind: api.WordList, Text: "DATE"}, {Kind: api.WordBracket, Text: "DATE"},
		{Text: "DATE"}, {Kind: 6, Text: "DATE"}, {Kind: -1, Text: "DATE"},
		{Kind: api.WordAtom, Text: "DATE", Glued: true}, {Kind: api.WordAtom, Text: "DATE", Kids: []api.Word{{}}}, {Kind: api.WordAtom, Text: "REVERSE", Glued: true},
		list(atom("DATE")), {Kind: api.WordAtom}, {},
	} {
		lookAtBy(t, list(kid), nil, api.ErrBy)
		lookAtBy(t, list(kid, atom("DATE")), nil, api.ErrBy)
		lookAtBy(t, list(atom("DATE"), kid), nil, api.ErrBy)
		lookAtBy(t, list(atom("REVERSE"), kid), nil, api.ErrBy)
		lookAtBy(t, list(append(times(7, atom("DATE")), kid)...), nil, api.ErrBy)
		lookAtBy(t, list(append(times(13, atom("DATE")), kid)...), nil, api.ErrBy)
		lookAtBy(t, list(append(times(14, atom("DATE")), kid)...), nil, api.ErrLong)
	}
	for _, kind := range []int{api.WordAtom, api.WordQuoted, api.WordLiteral, api.WordBracket, 0, 6, -1, least, most} {
		w := atoms("DATE")
		w.Kind = kind
		lookAtBy(t, w, nil, api.ErrBy)
		w.Kids = times(14, atom("DATE"))
		lookAtBy(t, w, nil, api.ErrBy)
		w.Kids = times(15, atom("DATE"))
		lookAtBy(t, w, nil, api.ErrLong)
		lookAtBy(t, api.Word{Kind: kind, Text: "DATE"}, nil, api.ErrBy)
	}
	lookAtBy(t, list(), nil, api.ErrBy)
	lookAtBy(t, api.Word{Kind: api.WordList, Kids: []api.Word{}}, nil, api.ErrBy)
	own := atoms("reverse TO")
	own.Text, own.Glued = "\x00", true
	lookAtBy(t, own, []api.By{{Kind: api.ByTo, Reverse: true}}, api.OK)
	own = list(api.Word{Kind: api.WordAtom, Text: "cc", Kids: []api.Word{}})
	lookAtBy(t, own, []api.By{{Kind: api.ByCc}}, api.OK)
}

// P8.2: keys as a client writes them.
func TestReadByLines(t *testing.T) {
	for _, c := range []struct {
		line string
		want []api.By
		e    api.Errno
	}{
		{"(REVERSE date Subject)", []api.By{{Kind: api.ByDate, Reverse: true}, {Kind: api.BySubject}}, api.OK},
		{"(arrival)", []api.By{{Kind: api.ByArrival}}, api.OK},
		{"()", nil, api.ErrBy}, {"(REVERSE)", nil, api.ErrBy}, {"(REVERSE REVERSE DATE)", nil, api.ErrBy}, {`("DATE")`, nil, api.ErrBy}, {"[DATE]", nil, api.ErrBy}, {"(UID)", nil, api.ErrBy}, {"DATE", nil, api.ErrBy}, {"((DATE))", nil, api.ErrBy}, {"(DATE())", nil, api.ErrBy},
	} {
		words, e := lex.Scan(c.line, nil)
		if e != api.OK {
			t.Fatalf("%q: %d", c.line, e)
		}
		lookAtBy(t, words[0], c.want, c.e)
	}
}

// P8.2, W6.
func TestReadByMemory(t *testing.T) {
	w := atoms("reverse DATE to REVERSE size")
	w.Kids = spacious(w.Kids)
	before := fmt.Sprint(whole(w.Kids))
	a, _ := thread.ReadBy(w)
	b, _ := thread.ReadBy(w)
	lookAtRooms(t, "ReadBy", w, a, b)
	for i := range whole(a) {
		whole(a)[i] = api.By{Kind: 99}
	}
	if c, _ := thread.ReadBy(w); !slices.Equal(b, c) || len(c) != 3 || c[1].Kind != api.ByTo {
		t.Errorf("%v, then %v", b, c)
	}
	if after := fmt.Sprint(whole(w.Kids)); after != before {
		t.Errorf("what was handed in: %s, not %s", after, before)
	}
}

// stands is below 0, if a stands ahead of b by a key.
func stands(a, b api.Card, by api.By) int {
	numbers := map[int][2]int{api.ByArrival: {a.Arrival, b.Arrival}, api.ByDate: {a.Sent, b.Sent}, api.BySize: {a.Size, b.Size}}
	texts := map[int][2]string{api.ByCc: {a.Cc, b.Cc}, api.ByFrom: {a.From, b.From}, api.BySubject: {a.Subject, b.Subject}, api.ByTo: {a.To, b.To}}
	n, s := numbers[by.Kind], texts[by.Kind]
	if by.Reverse {
		n[0], n[1], s[0], s[1] = n[1], n[0], s[1], s[0]
	}
	switch {
	case n[0] < n[1] || s[0] < s[1]:
		return -1
	case n[0] > n[1] || s[0] > s[1]:
		return 1
	}
	return 0
}

// slowSort puts each card behind those that stand ahead of it, which it counts.
func slowSort(cards []api.Card, by []api.By) []int {
	places := make([]int, len(cards))
	for i, a := range cards {
		ahead := 0
		for j, b := range cards {
			c := 0
			for k := 0; c == 0 && k < len(by); k++ {
				c = stands(b, a, by[k])
			}
			if c == 0 {
				c = b.Seq - a.Seq
			}
			if c < 0 || c == 0 && j < i {
				ahead++
			}
		}
		places[ahead] = i
	}
	return places
}

func someBy(r *rand.Rand) []api.By {
	by := make([]api.By, r.IntN(5))
	for i := range by {
		by[i] = api.By{Kind: r.IntN(9), Reverse: r.IntN(2) == 0}
	}
	return by
}

// P8.3: tables.
func TestSortTable(t *testing.T) {
	for _, c := range []struct {
		cards []api.Card
		by    []api.By
		want  []int
	}{
		{nil, nil, nil}, {nil, []api.By{{Kind: api.ByDate}}, nil}, {[]api.Card{{}}, nil, []int{0}},
		{[]api.Card{{Seq: 1, Size: 5}, {Seq: 2, Size: 9}, {Seq: 3, Size: 5}}, []api.By{{Kind: api.BySize, Reverse: true}}, []int{1, 0, 2}},
		{[]api.Card{{Seq: 2, From: "b"}, {Seq: 1, From: "b"}, {Seq: 3, From: "B"}}, []api.By{{Kind: api.ByFrom}}, []int{2, 1, 0}},
		{[]api.Card{{Seq: 3}, {Seq: 1}, {Seq: 2}}, nil, []int{1, 2, 0}},
		{[]api.Card{{}, {}, {}}, []api.By{{Kind: api.ByTo, Reverse: true}}, []int{0, 1, 2}},
		{[]api.Card{{Seq: most}, {Seq: least}, {Seq: 0}, {Seq: -1}}, nil, []int{1, 3, 2, 0}},
		{[]api.Card{{Sent: most}, {Sent: least}, {Sent: 0}}, []api.By{{Kind: api.ByDate}}, []int{1, 2, 0}},
		{[]api.Card{{Sent: most}, {Sent: least}, {Sent: 0}}, []api.By{{Kind: api.ByDate, Reverse: true}}, []int{0, 2, 1}},
		{[]api.Card{{Arrival: 1, Seq: most}, {Arrival: least}, {Arrival: most}}, []api.By{{Kind: api.ByArrival, Reverse: true}}, []int{2, 0, 1}},
		{[]api.Card{{To: "ab"}, {To: "a"}, {To: ""}, {To: "b"}, {To: "a\x00"}}, []api.By{{Kind: api.ByTo}}, []int{2, 1, 4, 0, 3}},
		{[]api.Card{{To: "ab"}, {To: "a"}, {To: ""}, {To: "b"}, {To: "a\x00"}}, []api.By{{Kind: api.ByTo, Reverse: true}}, []int{3, 0, 4, 1, 2}},
		{[]api.Card{{Cc: "\xff"}, {Cc: "\xc3\xa9"}, {Cc: "z"}, {Cc: "Z"}}, []api.By{{Kind: api.ByCc}}, []int{3, 2, 1, 0}},
		{[]api.Card{{Subject: "10"}, {Subject: "9"}, {Subject: "1"}}, []api.By{{Kind: api.BySubject}}, []int{2, 0, 1}},
		{[]api.Card{{Seq: 2}, {Seq: 1}}, []api.By{{Kind: 0}, {Kind: 8, Reverse: true}, {Kind: -1}, {Kind: least}, {Kind: most, Reverse: true}}, []int{1, 0}},
		{[]api.Card{{Seq: 1, Size: 2}, {Seq: 2, Size: 1}}, []api.By{{Kind: 9}, {Kind: api.BySize}}, []int{1, 0}},
		{[]api.Card{{Size: 1, Sent: 2}, {Size: 2, Sent: 2}, {Size: 1, Sent: 3}}, []api.By{{Kind: api.BySize, Reverse: true}, {Kind: api.ByDate, Reverse: true}}, []int{1, 2, 0}},
		{[]api.Card{{Size: 1}, {Size: 2}}, []api.By{{Kind: api.BySize}, {Kind: api.BySize, Reverse: true}}, []int{0, 1}},
	} {
		if got := thread.Sort(c.cards, c.by...); !slices.Equal(got, c.want) {
			t.Errorf("Sort(%+v, %+v): %v, not %v", c.cards, c.by, got, c.want)
		}
	}
}

// P8.3: each key looks at its own field, and at no other.
func TestSortEachKey(t *testing.T) {
	fields := map[int]string{api.ByArrival: "Arrival", api.ByCc: "Cc", api.ByDate: "Sent", api.ByFrom: "From", api.BySize: "Size", api.BySubject: "Subject", api.ByTo: "To"}
	for kind := range 9 {
		for _, field := range []string{"Uid", "Size", "Arrival", "Sent", "From", "To", "Cc", "Subject", "Id"} {
			cards := make([]api.Card, 2)
			if v := reflect.ValueOf(&cards[0]).Elem().FieldByName(field); v.CanInt() {
				v.SetInt(1)
			} else {
				v.SetString("a")
			}
			cards[0].Refs, cards[0].Reply = []string{"z"}, true
			for _, reverse := range []bool{false, true} {
				turned := fields[kind] == field && !reverse
				got := thread.Sort(cards, api.By{Kind: kind, Reverse: reverse})
				if (got[0] == 1) != turned {
					t.Errorf("kind %d, %v, by %s: %v", kind, reverse, field, got)
				}
			}
		}
	}
}

// P8.3, P8.9: against a slower one, and against sorting by one key after the other, the last one first.
func TestSortMany(t *testing.T) {
	r := rand.New(rand.NewPCG(8, 12))
	for range 20000 {
		cards, by := someCards(r, r.IntN(9)), someBy(r)
		want := slowSort(cards, by)
		got := thread.Sort(cards, by...)
		if !slices.Equal(got, want) {
			t.Fatalf("Sort(%+v, %+v): %v, not %v", cards, by, got, want)
		}
		row := thread.Sort(cards)
		for _, b := range slices.Backward(by) {
			sort.SliceStable(row, func(i, j int) bool { return stands(cards[row[i]], cards[row[j]], b) < 0 })
		}
		if !slices.Equal(got, row) {
			t.Fatalf("Sort(%+v, %+v): %v, key by key %v", cards, by, got, row)
		}
		sorted := make([]api.Card, len(cards))
		for i, at := range got {
			sorted[i] = cards[at]
			sorted[i].Seq = i
		}
		for i, at := range thread.Sort(sorted, by...) {
			if i != at {
				t.Fatalf("%+v sorted by %+v, and again: %d at %d", cards, by, at, i)
			}
		}
	}
}

// P8.9: what is sorted stays, with Seqs of its own.
func TestSortAgain(t *testing.T) {
	r := rand.New(rand.NewPCG(8, 13))
	for range 5000 {
		cards, by := someCards(r, 1+r.IntN(9)), someBy(r)
		for i, seq := range r.Perm(len(cards)) {
			cards[i].Seq = seq
		}
		sorted := make([]api.Card, 0, len(cards))
		for _, at := range thread.Sort(cards, by...) {
			sorted = append(sorted, cards[at])
		}
		if got := thread.Sort(sorted, by...); !slices.IsSorted(got) || len(got) != len(cards) {
			t.Fatalf("%+v by %+v: %v", sorted, by, got)
		}
	}
}

// P8.3, W6.
func TestSortMemory(t *testing.T) {
	r := rand.New(rand.NewPCG(8, 14))
	for range 200 {
		cards, by := roomyCards(someCards(r, 6)), spacious(someBy(r))
		before := shownCards(cards) + fmt.Sprint(whole(by))
		a, b := thread.Sort(cards, by...), thread.Sort(cards, by...)
		lookAtRooms(t, "Sort", cards, by, a, b)
		for i := range whole(a) {
			whole(a)[i] = -1
		}
		if c := thread.Sort(cards, by...); !slices.Equal(b, c) {
			t.Fatalf("%v, then %v", b, c)
		}
		if after := shownCards(cards) + fmt.Sprint(whole(by)); after != before {
			t.Fatalf("what was handed in: %s, not %s", after, before)
		}
	}
}

// P8.3, W1: many cards, and many keys.
func TestSortLarge(t *testing.T) {
	const n = 200000
	cards := make([]api.Card, n)
	for i := range cards {
		cards[i] = api.Card{Seq: i, Size: n - i, Subject: strings.Repeat("s", 1000)}
	}
	got := thread.Sort(cards, api.By{Kind: api.BySubject}, api.By{Kind: api.BySize})
	for i, at := range got {
		if at != n-1-i {
			t.Fatalf("at %d: %d", i, at)
		}
	}
	for i := range cards {
		cards[i].Size = i * 7919 % n
	}
	by := times(n, api.By{Kind: api.BySubject})
	by = append(by, times(n, api.By{Kind: 12})...)
	by = append(by, api.By{Kind: api.BySize})
	want := thread.Sort(cards[:20000], api.By{Kind: api.BySize})
	if got := thread.Sort(cards[:20000], by...); !slices.Equal(got, want) {
		t.Errorf("many keys: %v", got[:5])
	}
}
