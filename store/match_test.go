package store_test

import (
	"math/rand/v2"
	"strings"
	"testing"
	"time"

	"postbag/store"
)

// P12.14
func TestMatch(t *testing.T) {
	for c, want := range map[[2]string]bool{
		{"", ""}: true, {"", "a"}: false, {"a", ""}: false, {"*", ""}: true, {"%", ""}: true, {"*%*%", ""}: true, {"%%", "/"}: false, {"*", "/"}: true, {"/", "/"}: true,
		{"a", "a"}: true, {"a", "A"}: false, {"A", "a"}: false, {"a", "b"}: false, {"a", "aa"}: false, {"aa", "a"}: false, {"a/b", "a/b"}: true,
		{"*", "a/b/c"}: true, {"%", "a"}: true, {"%", "a/b"}: false, {"a/%", "a/b"}: true, {"a/%", "a/b/c"}: false, {"a%", "a/b"}: false, {"a*", "a/b"}: true, {"%b", "a/b"}: false, {"*b", "a/b"}: true,
		{"%/%", "a/b"}: true, {"%/%", "a/b/c"}: false, {"%/%/%", "a/b/c"}: true, {"*/%", "a/b/c"}: true, {"%/*", "a/b/c"}: true, {"%/*", "a"}: false, {"%%%%", "abc"}: true, {"%%/%%", "a/b"}: true,
		{"*%", "a/b"}: true, {"%*", "a/b"}: true, {"%*%", "a/b/c"}: true, {"a%*b", "a/x/b"}: true, {"a*%b", "a/x/b"}: true, {"a%%b", "a/x/b"}: false, {"a**b", "ab"}: true, {"*a*", "bab"}: true, {"*a*", "bbb"}: false,
		{"%a%a", "aXaYa"}: true, {"*a%b", "a/ab"}: true, {"*a%b", "ab/a/b"}: false, {"*a/%b*", "a/xxb/c"}: true, {"*x%y/z", "x/xy/z"}: true, {"%ab", "aab"}: true, {"*ab/%ab", "ab/xab"}: true,
		{"é%", "éa"}: true, {"%\xa9", "é"}: true, {"\xc3*", "é"}: true, {"日*", "日本"}: true, {"a\x00*", "a\x00b"}: true, {"%", "%"}: true, {"*", "*"}: true, {"a%", "a*"}: true,
		// INBOX in any case
		{"inbox", "INBOX"}: true, {"INBOX", "INBOX"}: true, {"iNbOx", "INBOX"}: true, {"inb%", "INBOX"}: true, {"%box", "INBOX"}: true, {"*b*", "INBOX"}: true, {"%n%x", "INBOX"}: true, {"inboxx", "INBOX"}: false, {"inbo", "INBOX"}: false,
		{"inbox/b", "INBOX/b"}: true, {"INBOX/b", "INBOX/B"}: false, {"inbox/B", "INBOX/b"}: false, {"inbox/%", "INBOX/B"}: true, {"inbox*", "INBOX/a/b"}: true, {"%x/a", "INBOX/a"}: true, {"*/inbox", "INBOX/INBOX"}: false, {"*/INBOX", "INBOX/INBOX"}: true,
		{"inbox/inbox", "INBOX/inbox"}: true, {"inbox/inbox", "INBOX/INBOX"}: false, {"%ox/INBOX", "INBOX/INBOX"}: true, {"inbox/", "INBOX/"}: true, {"inbox", "INBOXX"}: false, {"inboxx", "INBOXX"}: false, {"INBOX%", "INBOXX"}: true, {"inbox%", "INBOXX"}: false,
		{"inbox", "inbox"}: true, {"INBOX", "inbox"}: false, {"inbox", "Inbox"}: false, {"INBOX", "Inbox"}: false, {"inbox/a", "Inbox/a"}: false, {"inbox", "a/INBOX"}: false, {"a/inbox", "a/INBOX"}: false, {"*inbox", "XINBOX"}: false,
		{"\x09nbox", "INBOX"}: false, {")nbox", "INBOX"}: false, {"inbox\x0f", "INBOX/"}: false, {"\xc9NBOX", "INBOX"}: false,
	} {
		if got := store.Match(c[0], c[1]); got != want {
			t.Errorf("Match(%q, %q): %v", c[0], c[1], got)
		}
		if got := slowMatch(c[0], c[1]); got != want {
			t.Errorf("the other make: Match(%q, %q): %v", c[0], c[1], got)
		}
	}
}

// allOf goes through all texts over some letters, up to a length.
func allOf(letters string, most int, do func(s string)) {
	var grow func(s string)
	grow = func(s string) {
		do(s)
		if len(s) < most {
			for _, r := range letters {
				grow(s + string(r))
			}
		}
	}
	grow("")
}

// P12.14: all short patterns and names, held against another make.
func TestMatchAll(t *testing.T) {
	t.Parallel()
	var patterns []string
	allOf("a/%*", 5, func(p string) { patterns = append(patterns, p) })
	allOf("a/b", 5, func(name string) {
		for _, p := range patterns {
			if store.Match(p, name) != slowMatch(p, name) {
				t.Fatalf("Match(%q, %q)", p, name)
			}
		}
	})
	for _, name := range []string{"INBOX", "INBOX/", "INBOX/INBOX", "INBOX/x", "INBOX/X", "INBOXX", "INBO", "inbox", "xINBOX", "INBOX\x00"} {
		allOf("xXiI/%*", 4, func(p string) {
			for _, p := range []string{p, "inbo" + p, "INB" + p + "X", "*" + p + "X", "iN%" + p} {
				if store.Match(p, name) != slowMatch(p, name) {
					t.Fatalf("Match(%q, %q)", p, name)
				}
			}
		})
	}
}

// P12.14: long patterns and names, whose places lie in several words, held against another make.
func TestMatchRandom(t *testing.T) {
	r := rand.New(rand.NewPCG(12, 14))
	fits := 0
	for range 6000 {
		name := make([]byte, r.IntN(300))
		for i := range name {
			name[i] = oneOf(r, byte('a'), 'a', 'a', 'b', '/')
		}
		n := string(name)
		if r.IntN(4) == 0 {
			n = oneOf(r, "INBOX", "INBOX/", "INBOX/INBOX/") + n
		}
		var p strings.Builder
		for i := 0; i < len(n); i++ {
			switch k := r.IntN(20); {
			case k == 0:
				p.WriteByte('*')
				i += r.IntN(40) - 1
			case k == 1:
				p.WriteByte('%')
				i += r.IntN(4) - 1
			case k == 2 && r.IntN(20) == 0:
				p.WriteByte(oneOf(r, byte('a'), 'b', '/', 'I'))
			case i < 5 && r.IntN(2) == 0:
				p.WriteString(strings.ToLower(n[i : i+1]))
			default:
				p.WriteByte(n[i])
			}
		}
		want := slowMatch(p.String(), n)
		if store.Match(p.String(), n) != want {
			t.Fatalf("Match(%q, %q): not %v", p.String(), n, want)
		}
		if want {
			fits++
		}
	}
	if fits < 600 || fits > 5400 {
		t.Errorf("%d of 6000 fit", fits)
	}
}

// P12.14: it ends quickly at every pattern.
func TestMatchQuick(t *testing.T) {
	const n = 60000
	a := strings.Repeat("a", n)
	levels := strings.Repeat("a/", n/2)
	begin := time.Now()
	for _, c := range []struct {
		pattern, name string
		want          bool
	}{
		{strings.Repeat("*a", n/2), a + "b", false}, {strings.Repeat("*a", n/2), a, true}, {strings.Repeat("%a", n/2), a + "b", false}, {strings.Repeat("%a", n/2), a, true}, {strings.Repeat("*%a", n/2), a + "b", false},
		{"*" + strings.Repeat("%a", n/2), a + "b", false}, {"*" + strings.Repeat("%a/", n/4) + "b", levels, false}, {strings.Repeat("%/", n/2), levels, true}, {"*" + a + "b", a + a, false}, {a, a, true},
		{strings.Repeat("*", n), a, true}, {strings.Repeat("%", n), a, true}, {strings.Repeat("%", n), levels, false}, {strings.Repeat("%*", n), levels, true}, {strings.Repeat("*/", n/2) + "*b*", levels, false}, {a + a + "*", a, false}, {"*" + a + a, a, false},
		{strings.Repeat("a*%", n), "INBOX/" + a, false}, {"inbox" + strings.Repeat("*/%", 10), "INBOX" + levels[:20], false}, {"inbox" + strings.Repeat("*/%", 10), "INBOX/" + levels[:20], true},
	} {
		if got := store.Match(c.pattern, c.name); got != c.want {
			t.Errorf("Match(%.20q .., %.20q ..): %v", c.pattern, c.name, got)
		}
	}
	if took := time.Since(begin); took > 30*time.Second {
		t.Errorf("it took %v", took)
	}
}
