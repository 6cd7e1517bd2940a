package span_test

import (
	"fmt"
	"math"
	"math/big"
	"math/rand/v2"
	"regexp"
	"slices"
	"strings"
	"testing"

	"postbag/api"
	"postbag/span"
)

const most = 4294967295

// set makes one of its ends in turn.
func set(ends ...int) []api.Range {
	var l []api.Range
	for i := 0; i < len(ends); i += 2 {
		l = append(l, api.Range{From: ends[i], To: ends[i+1]})
	}
	return l
}

var formOfSets = regexp.MustCompile(`\A(\*|[1-9][0-9]*)(:(\*|[1-9][0-9]*))?(,(\*|[1-9][0-9]*)(:(\*|[1-9][0-9]*))?)*\z`)

// wantEnd is the number of an end's text, as great as it may be.
func wantEnd(s string) *big.Int {
	n := new(big.Int)
	if s != "*" {
		n.SetString(s, 10)
	}
	return n
}

// wantParse reads by a regular expression, and by numbers without a bound.
func wantParse(s string) ([]api.Range, api.Errno) {
	if len(s) > 4096 {
		return nil, api.ErrLong
	}
	if !formOfSets.MatchString(s) {
		return nil, api.ErrSet
	}
	var l []api.Range
	for _, piece := range strings.Split(s, ",") {
		ends := strings.Split(piece, ":")
		from, to := wantEnd(ends[0]), wantEnd(ends[len(ends)-1])
		if from.Cmp(big.NewInt(most)) > 0 || to.Cmp(big.NewInt(most)) > 0 {
			return nil, api.ErrSet
		}
		l = append(l, api.Range{From: int(from.Int64()), To: int(to.Int64())})
	}
	if len(l) > 64 {
		return nil, api.ErrMany
	}
	return l, api.OK
}

func tellParse(t *testing.T, s string, want []api.Range, wantE api.Errno) {
	t.Helper()
	l, e := span.Parse(s)
	if !slices.Equal(l, want) || e != wantE {
		t.Errorf("Parse(%.60q) of %d bytes: %v, %d, not %v, %d", s, len(s), l, e, want, wantE)
	}
}

// lookAtParse holds a reading against one of another make: P4.1.
func lookAtParse(t *testing.T, s string) {
	t.Helper()
	l, e := wantParse(s)
	tellParse(t, s, l, e)
}

// wantPrint writes by the document's words.
func wantPrint(l []api.Range) (string, api.Errno) {
	if len(l) > 64 {
		return "", api.ErrMany
	}
	var texts []string
	for _, p := range l {
		if p.From < 0 || p.From > most || p.To < 0 || p.To > most {
			return "", api.ErrSet
		}
		text := fmt.Sprintf("<%d:%d>", p.From, p.To)
		if p.From == p.To {
			text = fmt.Sprintf("<%d>", p.From)
		}
		text = strings.NewReplacer("<0:", "*:", ":0>", ":*", "<0>", "*", "<", "", ">", "").Replace(text)
		texts = append(texts, text)
	}
	if len(texts) == 0 {
		return "", api.ErrSet
	}
	return strings.Join(texts, ","), api.OK
}

func tellPrint(t *testing.T, l []api.Range, want string, wantE api.Errno) {
	t.Helper()
	s, e := span.Print(l)
	if s != want || e != wantE {
		t.Errorf("Print(%.90s) of %d: %q, %d, not %q, %d", fmt.Sprint(l), len(l), s, e, want, wantE)
	}
}

// lookAtPrint holds a text against one of another make, and against what is read of it: P4.2.
func lookAtPrint(t *testing.T, l []api.Range) {
	t.Helper()
	s, e := wantPrint(l)
	handed := withSpare(l)
	tellPrint(t, handed.list, s, e)
	if handed.isChanged() {
		t.Errorf("Print(%v): the set is %v now", l, handed.list)
	}
	if e == api.OK {
		tellParse(t, s, l, api.OK)
	}
}

// P4.1
func TestParse(t *testing.T) {
	for s, want := range map[string][]api.Range{
		"2:4,9,12:*":            set(2, 4, 9, 9, 12, 0),
		"*":                     set(0, 0),
		"*:3":                   set(0, 3),
		"3:*":                   set(3, 0),
		"*:*":                   set(0, 0),
		"5:5":                   set(5, 5),
		"9:2":                   set(9, 2),
		"2:9":                   set(2, 9),
		"1":                     set(1, 1),
		"10":                    set(10, 10),
		"100:200":               set(100, 200),
		"4294967295":            set(most, most),
		"4294967295:1":          set(most, 1),
		"*:4294967295":          set(0, most),
		"7,7,7":                 set(7, 7, 7, 7, 7, 7),
		"3,1,2":                 set(3, 3, 1, 1, 2, 2),
		"1:2,*:*,*,3:*,*:4,5:5": set(1, 2, 0, 0, 0, 0, 3, 0, 0, 4, 5, 5),
	} {
		tellParse(t, s, want, api.OK)
		lookAtParse(t, s)
	}
}

// P4.1: what is no text of a set.
func TestParseRefuses(t *testing.T) {
	for _, s := range []string{
		"", "0", "00", "01", "007", "0:1", "1:0", "1:01", "1,0", "1,02", "0,1", "*:0", "0:*",
		",", ",,", ",1", "1,", "1,,2", "1,2,", ",1,2", "1,,", "*,", ",*", "*,,*",
		":", "::", ":1", "1:", ":*", "*:", "1::2", "1:2:3", "1:2:", ":1:2", "1:2:3:4", "1:*:3", "*:*:*", "1:2:3,4",
		":,", ",:", "1:,2", "1,:2", "1:,", ",:1", "1:2,:", "1,2:",
		" ", " 1", "1 ", "1 2", "1, 2", "1 ,2", "1: 2", "1 :2", "\t1", "1\r\n", "1\n", "\n1",
		"-1", "+1", "1-2", "1:-2", "1:+2", "-0", "--1", "-", "+",
		"a", "1a", "a1", "1b2", "0x1", "0b1", "1_000", "1e3", "1.0", "1.", ".1", "NIL", "1;2", "1/2", "(1)", `"1"`, "$", "1\x00", "\x00", "\x00,1",
		"**", "*1", "1*", "1*2", "***", "*:**", "%",
		"１", "1\xff", "\xb2", "٣", "1,é", "∞",
		"4294967296", "1:4294967296", "4294967296:1", "4294967296:*", "*:4294967296", "1,4294967296", "4294967296,1", "9999999999",
		"18446744073709551615", "18446744073709551616", "18446744073709551617", "9223372036854775807", "9223372036854775808",
		"42949672950", "04294967295", "1" + strings.Repeat("0", 4000), strings.Repeat("9", 4096), strings.Repeat("0", 4096), "1:" + strings.Repeat("1", 1000) + ",1",
	} {
		tellParse(t, s, nil, api.ErrSet)
		lookAtParse(t, s)
	}
}

// P4.1: at each bound, one past it, and where two errors hold.
func TestParseBounds(t *testing.T) {
	many := func(n int, piece string) string { return strings.Repeat(piece+",", n-1) + piece }
	for _, c := range []struct {
		s    string
		want api.Errno
	}{
		{many(1, "1"), api.OK},
		{many(63, "1"), api.OK},
		{many(64, "1"), api.OK},
		{many(65, "1"), api.ErrMany},
		{many(66, "1"), api.ErrMany},
		{many(64, "*"), api.OK},
		{many(65, "*"), api.ErrMany},
		{many(64, "4294967295:4294967294"), api.OK},
		{many(65, "4294967295:4294967294"), api.ErrMany},
		{many(186, "4294967295:4294967294"), api.ErrMany},
		{many(187, "4294967295:4294967294"), api.ErrLong},
		{many(64, "1") + ",", api.ErrSet},
		{many(65, "1") + ",", api.ErrSet},
		{many(65, "1") + ",0", api.ErrSet},
		{many(65, "1") + ",4294967296", api.ErrSet},
		{many(65, "1") + ":2:3", api.ErrSet},
		{many(65, "1") + ":", api.ErrSet},
		{"0," + many(65, "1"), api.ErrSet},
		{many(100, "1") + ",x," + many(100, "1"), api.ErrSet},
		{many(65, "0"), api.ErrSet},
		{strings.Repeat(",", 64), api.ErrSet},
		{strings.Repeat(",", 4096), api.ErrSet},
		{strings.Repeat(":", 4096), api.ErrSet},
		{strings.Repeat(":", 4097), api.ErrLong},
		{strings.Repeat(",", 4097), api.ErrLong},
		{many(2048, "1"), api.ErrMany},
		{many(2047, "1") + ",1", api.ErrMany},
		{many(2048, "1") + "2", api.ErrMany},
		{many(2048, "1") + "23", api.ErrLong},
		{many(2049, "1"), api.ErrLong},
		{strings.Repeat("1", 4096), api.ErrSet},
		{strings.Repeat("1", 4097), api.ErrLong},
		{strings.Repeat("x", 4096), api.ErrSet},
		{strings.Repeat("x", 4097), api.ErrLong},
		{strings.Repeat("0", 1<<20), api.ErrLong},
	} {
		l, e := span.Parse(c.s)
		if e != c.want || e != api.OK && len(l) > 0 {
			t.Errorf("Parse(%.40q) of %d bytes: %d pieces, %d, not %d", c.s, len(c.s), len(l), e, c.want)
		}
		lookAtParse(t, c.s)
	}
}

// P4.1: each byte at each place.
func TestParseOfEachByte(t *testing.T) {
	for c := range 256 {
		b := string([]byte{byte(c)})
		for _, s := range []string{b, b + "1", "1" + b, "1" + b + "2", "1:" + b, b + ":1", "*" + b, b + "*", "1," + b, b + ",1", "1:2" + b + "3", "1:2" + b} {
			lookAtParse(t, s)
		}
	}
}

// P4.1, P4.2: all short texts of the bytes that matter, there and back.
func TestParseOfAllShortTexts(t *testing.T) {
	good := 0
	var look func(s string, left int)
	look = func(s string, left int) {
		lookAtParse(t, s)
		if l, e := span.Parse(s); e == api.OK {
			good++
			again, e := span.Print(l)
			if e != api.OK {
				t.Errorf("Print of Parse of %q: %d", s, e)
			}
			if want := withoutDoubles(s); again != want {
				t.Errorf("Print of Parse of %q: %q, not %q", s, again, want)
			}
			lookAtPrint(t, l)
		}
		if left == 0 {
			return
		}
		for _, c := range []string{"0", "1", "2", "*", ":", ",", " "} {
			look(s+c, left-1)
		}
	}
	look("", 6)
	if good < 1000 {
		t.Errorf("only %d good ones", good)
	}
}

// withoutDoubles is a set's text with each piece of two like ends as one end.
func withoutDoubles(s string) string {
	pieces := strings.Split(s, ",")
	for i, piece := range pieces {
		if from, to, is := strings.Cut(piece, ":"); is && from == to {
			pieces[i] = from
		}
	}
	return strings.Join(pieces, ",")
}

// P4.1: long texts of pieces, most of them good ones.
func TestParseOfManyTexts(t *testing.T) {
	r := rand.New(rand.NewPCG(4, 1))
	ends := []string{"1", "2", "10", "*", "4294967294", "4294967295", "300"}
	wrong := []string{"0", "", "4294967296", "01", " 1", "1:2", "-3", "1,"}
	counts := map[api.Errno]int{}
	for range 20000 {
		var pieces []string
		for range 1 + r.IntN(70) {
			end := func() string {
				if r.IntN(200) == 0 {
					return wrong[r.IntN(len(wrong))]
				}
				return ends[r.IntN(len(ends))]
			}
			piece := end()
			if r.IntN(2) == 0 {
				piece += ":" + end()
			}
			pieces = append(pieces, piece)
		}
		s := strings.Join(pieces, ",")
		lookAtParse(t, s)
		_, e := span.Parse(s)
		counts[e]++
	}
	if counts[api.OK] < 1000 || counts[api.ErrSet] < 1000 || counts[api.ErrMany] < 100 {
		t.Errorf("%v", counts)
	}
}

// P4.1, W6
func TestParseAnswersNewMemory(t *testing.T) {
	first, _ := span.Parse("1:2,3,*")
	overwrite(first)
	tellParse(t, "1:2,3,*", set(1, 2, 3, 3, 0, 0), api.OK)
}

// P4.2
func TestPrint(t *testing.T) {
	for want, l := range map[string][]api.Range{
		"4:2,7,*,*:9":                 set(4, 2, 7, 7, 0, 0, 0, 9),
		"1":                           set(1, 1),
		"*":                           set(0, 0),
		"9:*":                         set(9, 0),
		"*:9":                         set(0, 9),
		"4294967295":                  set(most, most),
		"4294967294:4294967295":       set(most-1, most),
		"4294967295:*,*:4294967295":   set(most, 0, 0, most),
		"3,1,2,2":                     set(3, 3, 1, 1, 2, 2, 2, 2),
		"10:100,1000:1,20:20000000,5": set(10, 100, 1000, 1, 20, 20000000, 5, 5),
	} {
		tellPrint(t, l, want, api.OK)
		lookAtPrint(t, l)
	}
}

// P4.2: what is no set.
func TestPrintRefuses(t *testing.T) {
	for _, l := range [][]api.Range{nil, {}, make([]api.Range, 0, 9)} {
		tellPrint(t, l, "", api.ErrSet)
	}
	for _, wrong := range []int{-1, -2, most + 1, most + 2, -most, math.MaxInt, math.MinInt, 1 << 32, 1<<32 + 1, 1 << 62} {
		for _, l := range [][]api.Range{
			set(wrong, wrong), set(1, wrong), set(wrong, 1), set(0, wrong), set(wrong, 0), set(most, wrong),
			set(1, 1, wrong, 2), set(wrong, 2, 1, 1), set(1, 1, 2, wrong, 3, 3), append(make([]api.Range, 63), set(1, wrong)...),
		} {
			tellPrint(t, l, "", api.ErrSet)
			lookAtPrint(t, l)
		}
	}
}

// P4.2: MaxRanges and one past it; ErrMany comes first.
func TestPrintBounds(t *testing.T) {
	for n := range 70 {
		lookAtPrint(t, make([]api.Range, n))
		lookAtPrint(t, slices.Repeat(set(most, most-1), n))
		lookAtPrint(t, slices.Repeat(set(1, -1), n))
	}
	tellPrint(t, slices.Repeat(set(1, 1), 64), strings.Repeat("1,", 63)+"1", api.OK)
	tellPrint(t, slices.Repeat(set(1, 1), 65), "", api.ErrMany)
	tellPrint(t, slices.Repeat(set(-1, 1), 64), "", api.ErrSet)
	tellPrint(t, slices.Repeat(set(-1, 1), 65), "", api.ErrMany)
	tellPrint(t, make([]api.Range, 1<<20), "", api.ErrMany)
}

// P4.2: many sets, there and back.
func TestPrintOfManySets(t *testing.T) {
	r := rand.New(rand.NewPCG(4, 2))
	ends := []int{0, 0, 1, 2, 3, 9, 10, 99, 100, 123456, most - 1, most}
	for range 20000 {
		l := make([]api.Range, r.IntN(67))
		for i := range l {
			l[i] = api.Range{From: ends[r.IntN(len(ends))], To: ends[r.IntN(len(ends))]}
		}
		if len(l) > 0 && r.IntN(8) == 0 {
			l[r.IntN(len(l))].To = []int{-1, most + 1}[r.IntN(2)]
		}
		lookAtPrint(t, l)
	}
}
