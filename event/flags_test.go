package event_test

import (
	"math/rand/v2"
	"slices"
	"strings"
	"testing"

	"postbag/api"
	"postbag/event"
)

// P11.1
func TestFlags(t *testing.T) {
	long := strings.Repeat("k", api.MaxKeyword)
	for _, c := range []struct{ flags, want string }{
		{"", ""},
		{`work \seen Work \DRAFT A`, `\Draft \Seen A work`},
		{`\Seen \Flagged \Draft \Deleted \Answered`, `\Answered \Deleted \Draft \Flagged \Seen`},
		{`\SEEN \fLAGGED \dRaFt \deleted \ANSWERED`, `\Answered \Deleted \Draft \Flagged \Seen`},
		{`\seen \Seen \SEEN`, `\Seen`},
		{"Work work WORK", "Work"},
		{"wORK Work", "wORK"},
		{"b a", "a b"},
		{"b A", "A b"},
		{"B a", "a B"},
		{"a B c A b C", "a B c"},
		{"Z _ ^ a", "^ _ a Z"}, // by their small letters: a large one has its place behind these signs
		{"z Z [", "!"},
		{"ab a aB abc", "a ab abc"},
		{"~ zz z", "z zz ~"},
		{"Seen Recent NIL", "NIL Recent Seen"},
		{`Seen \Seen`, `\Seen Seen`},
		{long, long},
		{long[1:], long[1:]},
		{`x \Seen y \Answered`, `\Answered \Seen x y`},
	} {
		got, code := event.Flags(strings.Fields(c.flags))
		if c.want == "!" {
			if code != api.ErrMark || len(got) > 0 {
				t.Errorf("Flags(%s): %q, %d", c.flags, got, code)
			}
			continue
		}
		if code != api.OK || strings.Join(got, " ") != c.want {
			t.Errorf("Flags(%s): %q, %d, not %s", c.flags, got, code, c.want)
		}
	}
}

// P11.1: texts that are no flag, alone, ahead of flags and behind them.
func TestFlagsRefuses(t *testing.T) {
	for _, bad := range []string{
		"", " ", "a b", " a", "a ", `\`, `\Recent`, `\recent`, `\*`, `\Seen `, ` \Seen`, `\See`, `\Seenn`, `\\Seen`, `\x`, `a\`, `a\b`, `/Seen\`,
		"a]", "[a", "(", ")", "a(b", "{", "}", `"`, `"a"`, "%", "a*", "*", "\x00", "a\x00", "\x7f", "a\x80", "é", "\r\n", "a\n", "\t",
		strings.Repeat("k", api.MaxKeyword+1), strings.Repeat("k", 100000), `\` + strings.Repeat("k", 24), strings.Repeat("é", 12),
		"\\\u017feen", "\\\uff33een", // letters that other rules of case would take for an S
	} {
		for _, flags := range [][]string{{bad}, {bad, "a"}, {`\Seen`, bad}, {"a", bad, `\Seen`}, {bad, bad}} {
			if got, code := event.Flags(flags); code != api.ErrMark || len(got) > 0 {
				t.Errorf("Flags(%.60q): %q, %d", flags, got, code)
			}
		}
	}
}

// P11.1: every byte, alone, within a keyword, and in the place of each byte of a flag of the system.
func TestFlagsOfEachByte(t *testing.T) {
	for b := range 256 {
		one := string([]byte{byte(b)})
		texts := []string{one, "x" + one, one + "x", "x" + one + "y"}
		for _, f := range systemOrder {
			for i := range len(f) {
				texts = append(texts, f[:i]+one+f[i+1:], f[:i]+one+f[i:])
			}
		}
		for _, s := range texts {
			got, code := event.Flags([]string{s})
			want, wantCode := slowFlags([]string{s})
			if code != wantCode || !slices.Equal(got, want) {
				t.Errorf("Flags(%q): %q, %d, not %q, %d", s, got, code, want, wantCode)
			}
		}
	}
}

// P11.1: how many there may be; too many are found ahead of what they are.
func TestFlagsLimit(t *testing.T) {
	letters := strings.Split("p o n m l k j i h g f e d c b a q", " ")
	got, code := event.Flags(letters[:api.MaxFlags])
	if want := strings.Split("a b c d e f g h i j k l m n o p", " "); code != api.OK || !slices.Equal(got, want) {
		t.Errorf("Flags of %d: %q, %d", api.MaxFlags, got, code)
	}
	for _, flags := range [][]string{
		letters, make([]string, api.MaxFlags+1), make([]string, 100000),
		slices.Repeat([]string{"a"}, api.MaxFlags+1), slices.Repeat([]string{`\Seen`}, api.MaxFlags+1), slices.Repeat([]string{`\Recent`}, 20),
	} {
		if got, code := event.Flags(flags); code != api.ErrLong || len(got) > 0 {
			t.Errorf("Flags of %d: %q, %d", len(flags), got, code)
		}
	}
	if got, code := event.Flags(make([]string, api.MaxFlags)); code != api.ErrMark || len(got) > 0 {
		t.Errorf("Flags of %d empty texts: %q, %d", api.MaxFlags, got, code)
	}
	if got, code := event.Flags(slices.Repeat([]string{"b", `\seen`, "a", "B"}, api.MaxFlags/4)); code != api.OK || !slices.Equal(got, []string{`\Seen`, "a", "b"}) {
		t.Errorf("Flags of doubles: %q, %d", got, code)
	}
}

// P11.1, P11.8: many lists, against another make; the one form is its own one form.
func TestFlagsOfMany(t *testing.T) {
	r := rand.New(rand.NewPCG(11, 1))
	for range 20000 {
		flags := someFlags(r, 17)
		if r.IntN(10) == 0 && len(flags) > 0 {
			flags[r.IntN(len(flags))] = oneOf(r, `\Recent`, "", "a b", "é")
		}
		before := slices.Clone(flags)
		got, code := event.Flags(flags)
		want, wantCode := slowFlags(flags)
		if code != wantCode || !slices.Equal(got, want) {
			t.Fatalf("Flags(%q): %q, %d, not %q, %d", flags, got, code, want, wantCode)
		}
		if !slices.Equal(flags, before) {
			t.Fatalf("Flags(%q) changed it to %q", before, flags)
		}
		if again, code := event.Flags(got); code != api.OK || !slices.Equal(again, got) {
			t.Fatalf("Flags of the one form %q: %q, %d", got, again, code)
		}
	}
}

// P11.8: any order, and doubles in any case behind the first ones.
func TestFlagsOfAnyOrder(t *testing.T) {
	r := rand.New(rand.NewPCG(11, 2))
	for range 3000 {
		form := someForm(r)
		row := slices.Clone(form)
		r.Shuffle(len(row), func(i, j int) { row[i], row[j] = row[j], row[i] })
		for len(row) > 0 && len(row) < api.MaxFlags && r.IntN(5) > 0 {
			at := r.IntN(len(row))
			double := oneOf(r, strings.ToLower(row[at]), strings.ToUpper(row[at]), row[at])
			row = slices.Insert(row, at+1+r.IntN(len(row)-at), double)
		}
		if got, code := event.Flags(row); code != api.OK || !slices.Equal(got, form) {
			t.Fatalf("Flags(%q): %q, %d, not %q", row, got, code, form)
		}
	}
}

// P11.8: all orders of some flags.
func TestFlagsOfAllOrders(t *testing.T) {
	flags := []string{`\Flagged`, "b", "A", `\Answered`, "_", "c"}
	want := []string{`\Answered`, `\Flagged`, "_", "A", "b", "c"}
	var place func(n int)
	place = func(n int) {
		if n == len(flags) {
			if got, code := event.Flags(flags); code != api.OK || !slices.Equal(got, want) {
				t.Fatalf("Flags(%q): %q, %d", flags, got, code)
			}
			return
		}
		for i := n; i < len(flags); i++ {
			flags[n], flags[i] = flags[i], flags[n]
			place(n + 1)
			flags[n], flags[i] = flags[i], flags[n]
		}
	}
	place(0)
}

// P11.8: a text is a flag just if it is taken alone; so a row is taken just if each of it is.
func TestFlagsOneByOne(t *testing.T) {
	r := rand.New(rand.NewPCG(11, 3))
	for range 5000 {
		row := someFlags(r, 8)
		for range r.IntN(2) {
			row = append(row, oneOf(r, `\Recent`, "", "a b", `\`, strings.Repeat("k", 25), "é", "a"))
		}
		want := api.OK
		for _, f := range row {
			if _, code := event.Flags([]string{f}); code != api.OK {
				want = api.ErrMark
			}
		}
		if _, code := event.Flags(row); code != want {
			t.Fatalf("Flags(%q): %d, not %d", row, code, want)
		}
	}
}

// P11.6: what comes stays as it is, with the room behind it; what is answered is new.
func TestFlagsMemory(t *testing.T) {
	for _, flags := range [][]string{{"b", "a"}, {"a", "b"}, {`\seen`, "B", "a", "b"}, {`\Answered`, `\Seen`}, {"x"}, {}} {
		room := append(slices.Clone(flags), "spare", "room", "behind", "it")
		got, _ := event.Flags(room[:len(flags)])
		again, _ := event.Flags(room[:len(flags)])
		want := slices.Clone(again)
		got = got[:cap(got)]
		for i := range got {
			got[i] = "!"
		}
		if !slices.Equal(room, append(slices.Clone(flags), "spare", "room", "behind", "it")) {
			t.Errorf("Flags(%q) reaches what came: %q", flags, room)
		}
		if !slices.Equal(again, want) {
			t.Errorf("Flags(%q): two answers share their memory: %q", flags, again)
		}
		if third, _ := event.Flags(flags); !slices.Equal(third, want) {
			t.Errorf("Flags(%q) has kept what it answered: %q", flags, third)
		}
	}
}
