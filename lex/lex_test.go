package lex_test

import (
	"math"
	"math/big"
	"math/rand/v2"
	"regexp"
	"strconv"
	"strings"
	"testing"

	"postbag/api"
	"postbag/lex"
)

const nameOfNothing = "NIL"

func isMadeOf(s string, may func(c byte) bool) bool {
	for _, c := range []byte(s) {
		if !may(c) {
			return false
		}
	}
	return s != ""
}

func isAtomByte(c byte) bool {
	return c >= 33 && c <= 126 && !strings.Contains("()[]{}\"%*\\", string(rune(c)))
}

// wantIs tells the classes by the document's table, each for itself.
func wantIs(class int, s string) bool {
	isAtom := isMadeOf(s, isAtomByte)
	switch class {
	case 1:
		return isAtom
	case 2:
		return isAtom && strings.ToUpper(s) != nameOfNothing
	case 3:
		return isAtom && len(s) <= 32 && !strings.Contains(s, "+")
	case 4:
		return isAtom && len(s) <= 24 || s != "" && s[0] == '\\' && isMadeOf(s[1:], isAtomByte)
	case 5:
		return isAtom && len(s) <= 24
	case 6:
		return isMadeOf(s, func(c byte) bool { return isAtomByte(c) || c == '%' || c == '*' })
	}
	return false
}

func lookAtIs(t *testing.T, s string) {
	t.Helper()
	for _, class := range []int{lex.Atom, lex.Astring, lex.Tag, lex.Flag, lex.Keyword, lex.Pattern, 0, -1, 7, math.MaxInt, math.MinInt} {
		if got, want := lex.Is(class, s), wantIs(class, s); got != want {
			t.Errorf("Is(%d, %.60q): %v, not %v", class, s, got, want)
		}
	}
}

// P3.4
func TestIs(t *testing.T) {
	all := []int{lex.Atom, lex.Astring, lex.Tag, lex.Flag, lex.Keyword, lex.Pattern}
	for s, want := range map[string][]int{
		"":                             {},
		"a":                            all,
		"A1":                           all,
		"a-.&":                         all,
		"a+":                           {lex.Atom, lex.Astring, lex.Flag, lex.Keyword, lex.Pattern},
		"+":                            {lex.Atom, lex.Astring, lex.Flag, lex.Keyword, lex.Pattern},
		"nil":                          {lex.Atom, lex.Tag, lex.Flag, lex.Keyword, lex.Pattern},
		"nIl":                          {lex.Atom, lex.Tag, lex.Flag, lex.Keyword, lex.Pattern},
		"NIL":                          {lex.Atom, lex.Tag, lex.Flag, lex.Keyword, lex.Pattern},
		"nill":                         all,
		"ni":                           all,
		"n\xccl":                       {},
		`\Seen`:                        {lex.Flag},
		`\nil`:                         {lex.Flag},
		`\`:                            {},
		`\\`:                           {},
		`\\a`:                          {},
		`a\`:                           {},
		`\a\`:                          {},
		`\*`:                           {},
		"a]":                           {},
		"%/*":                          {lex.Pattern},
		"a%":                           {lex.Pattern},
		`%\`:                           {},
		" ":                            {},
		"a b":                          {},
		"é":                            {},
		times(24, "k"):                 all,
		times(25, "k"):                 {lex.Atom, lex.Astring, lex.Tag, lex.Pattern},
		times(32, "k"):                 {lex.Atom, lex.Astring, lex.Tag, lex.Pattern},
		times(33, "k"):                 {lex.Atom, lex.Astring, lex.Pattern},
		`\` + times(24, "k"):           {lex.Flag},
		`\` + times(25, "k"):           {lex.Flag},
		`\` + times(100000, "k"):       {lex.Flag},
		times(100000, "k"):             {lex.Atom, lex.Astring, lex.Pattern},
		times(100000, "k") + "\x00":    {},
		times(100000, "*") + "%" + "k": {lex.Pattern},
	} {
		for _, class := range all {
			is := false
			for _, w := range want {
				is = is || w == class
			}
			if lex.Is(class, s) != is {
				t.Errorf("Is(%d, %.60q): %v", class, s, !is)
			}
		}
		lookAtIs(t, s)
	}
}

// P3.4
func TestIsOfEachByte(t *testing.T) {
	for c := range 256 {
		b := string([]byte{byte(c)})
		for _, s := range []string{b, b + "a", "a" + b, "a" + b + "a", `\` + b, `\a` + b, times(23, "a") + b, times(24, "a") + b, times(31, "a") + b, times(32, "a") + b, "NIL" + b, "N" + b + "L", "%" + b, b + "*"} {
			lookAtIs(t, s)
		}
		for d := range 256 {
			lookAtIs(t, string([]byte{byte(c), byte(d)}))
		}
	}
}

// P3.4
func TestIsNilInAnyCase(t *testing.T) {
	letters := []string{"n", "N", "i", "I", "l", "L", "\xce", "ı"}
	everyText(letters, 4, func(s string) { lookAtIs(t, s) })
}

var numberForm = regexp.MustCompile(`\A(?:0|[1-9][0-9]*)\z`)

func lookAtNumber(t *testing.T, s string, most int) {
	t.Helper()
	want, wantE := 0, api.ErrNumber
	if numberForm.MatchString(s) {
		if n, _ := new(big.Int).SetString(s, 10); n.Cmp(big.NewInt(int64(most))) <= 0 {
			want, wantE = int(n.Int64()), api.OK
		}
	}
	if n, e := lex.Number(s, most); n != want || e != wantE {
		t.Errorf("Number(%.60q, %d): %d, %d, not %d, %d", s, most, n, e, want, wantE)
	}
}

// P3.5
func TestNumber(t *testing.T) {
	for _, c := range []struct {
		s    string
		most int
		n    int
		e    api.Errno
	}{
		{"0", 9, 0, api.OK},
		{"0", 0, 0, api.OK},
		{"9", 9, 9, api.OK},
		{"10", 10, 10, api.OK},
		{"10", 9, 0, api.ErrNumber},
		{"1", 0, 0, api.ErrNumber},
		{"00", 9, 0, api.ErrNumber},
		{"09", 9, 0, api.ErrNumber},
		{"", 9, 0, api.ErrNumber},
		{"", -1, 0, api.ErrNumber},
		{"-1", 9, 0, api.ErrNumber},
		{"+1", 9, 0, api.ErrNumber},
		{"1 ", 9, 0, api.ErrNumber},
		{"1_0", 99, 0, api.ErrNumber},
		{"0x1", 99, 0, api.ErrNumber},
		{"0", -1, 0, api.ErrNumber},
		{"0", -10, 0, api.ErrNumber},
		{"0", math.MinInt, 0, api.ErrNumber},
		{"4294967295", api.MaxNumber, 4294967295, api.OK},
		{"4294967296", api.MaxNumber, 0, api.ErrNumber},
		{"9223372036854775807", math.MaxInt, math.MaxInt, api.OK},
		{"9223372036854775808", math.MaxInt, 0, api.ErrNumber},
		{"9223372036854775806", math.MaxInt, math.MaxInt - 1, api.OK},
		{"9223372036854775807", math.MaxInt - 1, 0, api.ErrNumber},
		{"18446744073709551616", math.MaxInt, 0, api.ErrNumber},
		{"18446744073709551617", 9, 0, api.ErrNumber},
		{times(100000, "9"), math.MaxInt, 0, api.ErrNumber},
		{times(100000, "0"), math.MaxInt, 0, api.ErrNumber},
		{"1" + times(100000, "0"), math.MaxInt, 0, api.ErrNumber},
	} {
		if n, e := lex.Number(c.s, c.most); n != c.n || e != c.e {
			t.Errorf("Number(%.60q, %d): %d, %d, not %d, %d", c.s, c.most, n, e, c.n, c.e)
		}
		lookAtNumber(t, c.s, c.most)
	}
}

// P3.5
func TestNumberOfEachByte(t *testing.T) {
	for c := range 256 {
		b := string([]byte{byte(c)})
		for _, s := range []string{b, "1" + b, b + "1", "0" + b, b + "0", "12" + b + "4"} {
			for _, most := range []int{-1, 0, 5, 9, 99, math.MaxInt} {
				lookAtNumber(t, s, most)
			}
		}
	}
}

// P3.5: values at and about their greatest ones.
func TestNumberAboutItsMost(t *testing.T) {
	mosts := []int{math.MinInt, math.MinInt + 1, math.MaxInt - 1, math.MaxInt}
	for i := range 130 {
		mosts = append(mosts, i, -i)
	}
	for power := 1; power < math.MaxInt/10; power *= 10 {
		mosts = append(mosts, power-1, power, power+1, 9*power, 9*power+power-1)
	}
	r := rand.New(rand.NewPCG(3, 5))
	for range 3000 {
		mosts = append(mosts, r.Int()>>r.IntN(63))
	}
	for _, most := range mosts {
		n := new(big.Int).Abs(big.NewInt(int64(most)))
		for d := -12; d <= 12; d++ {
			s := new(big.Int).Add(n, big.NewInt(int64(d))).String()
			lookAtNumber(t, s, most)
			lookAtNumber(t, "0"+s, most)
		}
		for d := range 10 {
			lookAtNumber(t, n.String()+strconv.Itoa(d), most)
		}
	}
}
