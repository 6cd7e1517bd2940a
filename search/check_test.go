package search_test

import (
	"math/rand/v2"
	"reflect"
	"regexp"
	"slices"
	"strings"
	"testing"
	"time"

	"postbag/api"
	"postbag/search"
)

// fieldsOf is which fields the table of chapter 7 names for each kind.
var fieldsOf = map[int]string{
	api.KeyAnd: "Kids", api.KeyNot: "Kids", api.KeyOr: "Kids", api.KeyAll: "", api.KeySet: "Set", api.KeyUid: "Set",
	api.KeyFlag: "Text", api.KeyUnflag: "Text", api.KeyNew: "", api.KeyOld: "",
	api.KeyBcc: "Text", api.KeyBody: "Text", api.KeyCc: "Text", api.KeyFrom: "Text", api.KeyHeader: "Field Text", api.KeySubject: "Text", api.KeyText: "Text", api.KeyTo: "Text",
	api.KeyBefore: "Day", api.KeyOn: "Day", api.KeySince: "Day", api.KeySentBefore: "Day", api.KeySentOn: "Day", api.KeySentSince: "Day",
	api.KeyLarger: "Num", api.KeySmaller: "Num", api.KeyModseq: "Num",
}

var (
	aKeyword = regexp.MustCompile("^[!#$&'+,\\-./0-9:;<=>?@A-Z^_`a-z|~]{1,24}$")
	aFlag    = regexp.MustCompile(`^\\(Answered|Deleted|Draft|Flagged|Seen)$`)
)

func isMark(k api.Key) bool {
	return aKeyword.MatchString(k.Text) || aFlag.MatchString(k.Text) || k.Kind == api.KeyFlag && k.Text == `\Recent`
}

func isSet(set []api.Range) bool {
	for _, p := range set {
		if min(p.From, p.To) < 0 || max(p.From, p.To) > 4294967295 {
			return false
		}
	}
	return 1 <= len(set) && len(set) <= 64
}

func isDay(m api.Moment) bool {
	if m.Year < 1 || m.Year > 9999 || m.Month < 1 || m.Month > 12 || m.Day < 1 || m.Day > 31 {
		return false
	}
	at := time.Date(m.Year, time.Month(m.Month), m.Day, 0, 0, 0, 0, time.UTC)
	return m == api.Moment{Year: at.Year(), Month: int(at.Month()), Day: at.Day()}
}

// isRight holds a key against the table, field by field.
func isRight(k api.Key) bool {
	names, is := fieldsOf[k.Kind]
	v := reflect.ValueOf(k)
	for i := range v.NumField() {
		f, name := v.Field(i), v.Type().Field(i).Name
		isEmpty := f.IsZero() || f.Kind() == reflect.Slice && f.Len() == 0
		if name != "Kind" && !slices.Contains(strings.Fields(names), name) && !isEmpty {
			return false
		}
	}
	switch {
	case k.Kind == api.KeyAnd:
		return len(k.Kids) > 1
	case k.Kind == api.KeyNot:
		return len(k.Kids) == 1
	case k.Kind == api.KeyOr:
		return len(k.Kids) == 2
	case k.Kind == api.KeyFlag || k.Kind == api.KeyUnflag:
		return isMark(k)
	case names == "Set":
		return isSet(k.Set)
	case names == "Day":
		return isDay(k.Day)
	case names == "Num":
		return 0 <= k.Num && k.Num <= 4294967295
	}
	return is && len(k.Text) <= 16384 && len(k.Field) <= 16384
}

// checked is what Check is to answer, by a list of keys that are still to be looked at.
func checked(k api.Key) api.Errno {
	type spot struct {
		key   api.Key
		depth int
	}
	work := []spot{{key: k}}
	isGreat := false
	for n := 0; n < len(work); n++ {
		at := work[n]
		if !isRight(at.key) {
			return api.ErrKey
		}
		for _, kid := range at.key.Kids {
			work = append(work, spot{kid, at.depth + 1})
		}
		isGreat = isGreat || at.depth > 8 || n >= 32
	}
	if isGreat {
		return api.ErrKeys
	}
	return api.OK
}

// lookAtCheck: P7.1.
func lookAtCheck(t *testing.T, k api.Key) {
	t.Helper()
	in := roomy(k)
	before := shown(in)
	if e, want := search.Check(in), checked(k); e != want {
		t.Errorf("Check(%.300s): %d, not %d", shown(bare(k)), e, want)
	}
	if shown(in) != before {
		t.Errorf("Check(%.300s) changes it", before)
	}
}

// rightKeys is one key of each kind, and of each name.
func rightKeys() []api.Key {
	one := set(api.KeySet, 1, 1)
	keys := []api.Key{
		and(all(), one), and(all(), all(), all()), not(all()), not(not(one)), or(all(), one), all(), one, set(api.KeyUid, 5, 0, 0, 0),
		flag(`\Recent`), {Kind: api.KeyNew}, {Kind: api.KeyOld}, header("X-A", ""), header("", "b"),
	}
	for _, f := range append(flags, keywords...) {
		keys = append(keys, flag(f), unflag(f))
	}
	for _, kind := range []int{api.KeyBcc, api.KeyBody, api.KeyCc, api.KeyFrom, api.KeySubject, api.KeyText, api.KeyTo} {
		keys = append(keys, text(kind, "Joe"), text(kind, ""))
	}
	for kind := api.KeyBefore; kind <= api.KeySentSince; kind++ {
		keys = append(keys, day(kind, 2026, 2, 1))
	}
	for kind := api.KeyLarger; kind <= api.KeyModseq; kind++ {
		keys = append(keys, number(kind, 0), number(kind, 7))
	}
	return keys
}

// P7.1: each kind as the table has it.
func TestKeysAsTheTableHasThem(t *testing.T) {
	had := map[int]int{}
	for _, k := range rightKeys() {
		had[k.Kind]++
		if e := search.Check(k); e != api.OK {
			t.Errorf("Check(%s): %d", shown(k), e)
		}
		lookAtCheck(t, k)
	}
	if len(had) != len(fieldsOf) {
		t.Errorf("%d kinds", len(had))
	}
}

// P7.1, W5: a field that a kind does not name is zero; an empty list is.
func TestFieldsThatAKindDoesNotName(t *testing.T) {
	for _, k := range rightKeys() {
		names := fieldsOf[k.Kind]
		for name, turned := range map[string]func(*api.Key){
			"Text":  func(k *api.Key) { k.Text = "x" },
			"Field": func(k *api.Key) { k.Field = "x" },
			"Set":   func(k *api.Key) { k.Set = []api.Range{{From: 1, To: 1}} },
			"Day":   func(k *api.Key) { k.Day = api.Moment{Year: 2026, Month: 1, Day: 1} },
			"Num":   func(k *api.Key) { k.Num = 1 },
			"Kids":  func(k *api.Key) { k.Kids = []api.Key{all(), all()} },
		} {
			x := k
			turned(&x)
			if e := search.Check(x); !slices.Contains(strings.Fields(names), name) && e != api.ErrKey {
				t.Errorf("Check of kind %d with %s: %d", k.Kind, name, e)
			}
			lookAtCheck(t, x)
		}
		for _, turned := range []func(*api.Moment){
			func(m *api.Moment) { m.Hour = 1 }, func(m *api.Moment) { m.Minute = 1 }, func(m *api.Moment) { m.Second = 1 }, func(m *api.Moment) { m.Zone = -1 },
			func(m *api.Moment) { m.Year++ }, func(m *api.Moment) { m.Month++ }, func(m *api.Moment) { m.Day++ },
		} {
			x := k
			turned(&x.Day)
			lookAtCheck(t, x)
		}
		empty := k
		empty.Set, empty.Kids = append([]api.Range{}, k.Set...), append([]api.Key{}, k.Kids...)
		if e := search.Check(empty); e != api.OK {
			t.Errorf("Check of kind %d with empty lists: %d", k.Kind, e)
		}
	}
}

// P7.1: kinds that there are not.
func TestKindsThatThereAreNot(t *testing.T) {
	for _, kind := range []int{least, -1, 0, 28, 29, 99, most} {
		for _, k := range append(rightKeys(), api.Key{}) {
			k.Kind = kind
			if e := search.Check(k); e != api.ErrKey {
				t.Errorf("Check of kind %d: %d", kind, e)
			}
		}
	}
}

// P7.1: how many keys lie in another.
func TestNumbersOfKids(t *testing.T) {
	for kind, fits := range map[int]func(int) bool{
		api.KeyAnd: func(n int) bool { return n >= 2 },
		api.KeyNot: func(n int) bool { return n == 1 },
		api.KeyOr:  func(n int) bool { return n == 2 },
		api.KeyAll: func(n int) bool { return n == 0 },
		api.KeySet: func(n int) bool { return false },
	} {
		for n := range 6 {
			want := api.ErrKey
			if fits(n) {
				want = api.OK
			}
			if e := search.Check(api.Key{Kind: kind, Kids: times(n, all())}); e != want {
				t.Errorf("Check of kind %d with %d: %d", kind, n, e)
			}
		}
	}
}

// P7.1: flags and keywords.
func TestFlagsOfKeys(t *testing.T) {
	for _, s := range append(flags, `\Recent`, `\`, ``, `\*`, `\Nonsense`, `\All`, `\New`, `\Old`, `\Not`, `\Keyword`, `\Unkeyword`, `\Unseen`, `\\Seen`, `Seen`, `Recent`, ` x`, `x y`, `é`, "a\x00", "a(", "a]", "a%", "a*", `a"`, `a\`, "x\n", "x\x7f",
		strings.Repeat("k", api.MaxKeyword), strings.Repeat("k", api.MaxKeyword+1), `\`+strings.Repeat("k", 9)) {
		for _, s := range []string{s, strings.ToLower(s), strings.ToUpper(s), s + " ", " " + s} {
			lookAtCheck(t, flag(s))
			lookAtCheck(t, unflag(s))
		}
	}
	for c := range 256 {
		lookAtCheck(t, flag(string([]byte{byte(c)})))
		lookAtCheck(t, unflag("a"+string([]byte{byte(c)})))
	}
	for _, k := range []api.Key{unflag(`\Recent`), flag(`\seen`), unflag(`\SEEN`), flag(`\recent`), flag("SEEN "), flag("")} {
		if e := search.Check(k); e != api.ErrKey {
			t.Errorf("Check(%s): %d", shown(k), e)
		}
	}
}

// P7.1: texts at their bound.
func TestLongTextsOfKeys(t *testing.T) {
	for _, c := range []string{"x", "\x00", "\xff"} {
		fits, over := strings.Repeat(c, api.MaxLiteral), strings.Repeat(c, api.MaxLiteral+1)
		for _, kind := range []int{api.KeyBcc, api.KeyBody, api.KeyCc, api.KeyFrom, api.KeySubject, api.KeyText, api.KeyTo, api.KeyHeader} {
			if e, f := search.Check(text(kind, fits)), search.Check(text(kind, over)); e != api.OK || f != api.ErrKey {
				t.Errorf("Check of kind %d with a long text: %d, %d", kind, e, f)
			}
		}
		if e, f := search.Check(header(fits, fits)), search.Check(header(over, "")); e != api.OK || f != api.ErrKey {
			t.Errorf("Check of a long field: %d, %d", e, f)
		}
	}
}

// P7.1: sets that chapter 4 prints, and others.
func TestSetsOfKeys(t *testing.T) {
	for _, kind := range []int{api.KeySet, api.KeyUid} {
		for _, end := range []int{least, -1, 0, 1, 5, api.MaxNumber, api.MaxNumber + 1, most} {
			for _, other := range []int{least, -1, 0, 1, 5, api.MaxNumber, api.MaxNumber + 1, most} {
				lookAtCheck(t, set(kind, end, other))
				lookAtCheck(t, set(kind, 1, 1, end, other, 2, 2))
			}
		}
		for _, n := range []int{0, 1, api.MaxRanges, api.MaxRanges + 1, 5000} {
			lookAtCheck(t, set(kind, times(2*n, 3)...))
			lookAtCheck(t, set(kind, times(2*n, api.MaxNumber)...))
			lookAtCheck(t, set(kind, times(2*n, 0)...))
		}
		for _, k := range []api.Key{set(kind), {Kind: kind, Set: []api.Range{}}, set(kind, -1, 2), set(kind, times(130, 1)...)} {
			if e := search.Check(k); e != api.ErrKey {
				t.Errorf("Check(%.100s): %d", shown(k), e)
			}
		}
	}
}

// P7.1: days that PrintDay prints, and others.
func TestDaysOfKeys(t *testing.T) {
	for kind := api.KeyBefore; kind <= api.KeySentSince; kind++ {
		for _, m := range []api.Moment{
			{}, {Year: 2026, Month: 2, Day: 28}, {Year: 2026, Month: 2, Day: 29}, {Year: 2024, Month: 2, Day: 29}, {Year: 1900, Month: 2, Day: 29}, {Year: 1, Month: 1, Day: 1}, {Month: 1, Day: 1}, {Year: -1, Month: 1, Day: 1},
			{Year: 9999, Month: 12, Day: 31}, {Year: 10000, Month: 1, Day: 1}, {Year: 2026, Month: 13, Day: 1}, {Year: 2026, Day: 1}, {Year: 2026, Month: 1}, {Year: 2026, Month: 4, Day: 31}, {Year: most, Month: most, Day: most}, {Year: least, Month: least, Day: least},
		} {
			for _, n := range []int{0, 1, -1, 23, 60, most, least} {
				for _, turned := range []func(*api.Moment){func(m *api.Moment) { m.Hour = n }, func(m *api.Moment) { m.Minute = n }, func(m *api.Moment) { m.Second = n }, func(m *api.Moment) { m.Zone = n }} {
					x := m
					turned(&x)
					lookAtCheck(t, api.Key{Kind: kind, Day: x})
				}
			}
		}
		if e := search.Check(api.Key{Kind: kind, Day: api.Moment{Year: 2026, Month: 2, Day: 1, Hour: 1}}); e != api.ErrKey {
			t.Errorf("Check of a day with an hour: %d", e)
		}
	}
}

// P7.1: numbers at their ends.
func TestNumbersOfKeys(t *testing.T) {
	for kind := api.KeyLarger; kind <= api.KeyModseq; kind++ {
		for n, want := range map[int]api.Errno{least: api.ErrKey, -1: api.ErrKey, 0: api.OK, 1: api.OK, api.MaxNumber: api.OK, api.MaxNumber + 1: api.ErrKey, most: api.ErrKey} {
			if e := search.Check(number(kind, n)); e != want {
				t.Errorf("Check of kind %d with %d: %d", kind, n, e)
			}
		}
	}
}

// P7.1: how many keys there may be, and how deep.
func TestGreatTrees(t *testing.T) {
	full := and(times(api.MaxKeys-1, all())...)
	for name, c := range map[string]struct {
		key  api.Key
		want api.Errno
	}{
		"MaxKeys":                  {full, api.OK},
		"one more":                 {and(times(api.MaxKeys, all())...), api.ErrKeys},
		"one more, a KeyNot":       {not(full), api.ErrKeys},
		"KeyOr and KeyAnd counted": {or(and(times(14, all())...), and(times(15, all())...)), api.OK},
		"one above them":           {or(and(times(15, all())...), and(times(15, all())...)), api.ErrKeys},
		"MaxDepth":                 {nots(api.MaxDepth, all()), api.OK},
		"one deeper":               {nots(api.MaxDepth+1, all()), api.ErrKeys},
		"deep at its end":          {and(all(), nots(api.MaxDepth, all())), api.ErrKeys},
		"deep at its beginning":    {and(nots(api.MaxDepth, all()), all()), api.ErrKeys},
		"deep enough in KeyAnd":    {and(nots(api.MaxDepth-1, all()), all()), api.OK},
		"deep in KeyOr":            {or(all(), nots(api.MaxDepth, all())), api.ErrKeys},
		"a wrong one too deep":     {nots(api.MaxDepth+5, api.Key{}), api.ErrKey},
		"a wrong one behind many":  {and(append(times(api.MaxKeys+5, all()), unflag(`\Recent`))...), api.ErrKey},
		"a wrong one ahead":        {and(append([]api.Key{{}}, times(api.MaxKeys+5, all())...)...), api.ErrKey},
		"an empty KeyAnd":          {and(append(times(api.MaxKeys+5, all()), and())...), api.ErrKey},
	} {
		if e := search.Check(c.key); e != c.want {
			t.Errorf("%s: Check: %d, not %d", name, e, c.want)
		}
		lookAtCheck(t, c.key)
	}
}

// P7.1: trees of many kinds, right and wrong.
func TestTreesOfManyKinds(t *testing.T) {
	r := rand.New(rand.NewPCG(7, 1))
	had := map[api.Errno]int{}
	for range 3000 {
		k := someKey(r, r.IntN(12))
		if r.IntN(3) == 0 {
			all := places(&k)
			spoil(r, all[r.IntN(len(all))])
		}
		lookAtCheck(t, k)
		had[checked(k)]++
	}
	for _, e := range []api.Errno{api.OK, api.ErrKey, api.ErrKeys} {
		if had[e] < 100 {
			t.Errorf("%d trees of %d", had[e], e)
		}
	}
}

// spoil turns something of a key, so that it is wrong as a rule.
func spoil(r *rand.Rand, k *api.Key) {
	switch r.IntN(9) {
	case 0:
		k.Kind = oneOf(r, -1, 0, 28, 4, 7, 8, 16, 19, 25, 1+r.IntN(27))
	case 1:
		k.Text = oneOf(r, "", `\seen`, `\Recent`, "a b", "x", strings.Repeat("x", 16385))
	case 2:
		k.Field = oneOf(r, "x", strings.Repeat("x", 16385))
	case 3:
		k.Set = oneOf(r, nil, []api.Range{{From: -1}}, []api.Range{{}})
	case 4:
		k.Day = oneOf(r, api.Moment{}, api.Moment{Year: 2026, Month: 2, Day: 30}, api.Moment{Zone: 1})
	case 5:
		k.Num = oneOf(r, -1, 1, api.MaxNumber+1)
	case 6:
		k.Kids = nil
	case 7:
		k.Kids = k.Kids[:len(k.Kids)/2]
	default:
		k.Kids = append(k.Kids, all())
	}
}
