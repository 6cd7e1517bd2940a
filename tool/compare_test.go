package tool_test

import (
	"fmt"
	"math/rand/v2"
	"strings"
	"testing"

	"postbag/api"
	"postbag/store"
	"postbag/tool"
)

// P21.6: stores that are alike: a store and itself, its Twin, one of the same events; none and none.
func TestCompareAlike(t *testing.T) {
	for _, s := range []*store.Store{fresh(t), rich(t), nil, {}} {
		wantCompare(t, "itself", s, s)
		wantCompare(t, "its Twin", s, s.Twin())
		wantCompare(t, "its Twin, the other way round", s.Twin(), s)
		wantCompare(t, "thawed again", s, copyOf(t, s))
	}
	wantCompare(t, "the same events", rich(t), rich(t))
	wantCompare(t, "nil and a zero one", nil, &store.Store{})
	wantCompare(t, "a zero one and nil", &store.Store{}, nil)
}

// P21.6: a store against none.
func TestCompareNone(t *testing.T) {
	for _, none := range []*store.Store{nil, {}} {
		wantCompare(t, "a new one", fresh(t), none, `only first "INBOX"`, "last 1 0")
		wantCompare(t, "a new one, second", none, fresh(t), `only second "INBOX"`, "last 0 1")
		wantCompare(t, "a rich one", rich(t), none, `only first "INBOX"`, `only first "a"`, `only first "a/\"b\\"`, `only first subscription "a/\"b\\"`, "last 11 0")
		wantCompare(t, "a rich one, second", none, rich(t), `only second "INBOX"`, `only second "a"`, `only second "a/\"b\\"`, `only second subscription "a/\"b\\"`, "last 0 11")
	}
}

// of is a store (7, 1, 2) behind plans.
func of(t *testing.T, plans ...plan) *store.Store {
	t.Helper()
	s := fresh(t)
	done(t, s, plans...)
	return s
}

// P21.6: stores that differ in one thing each, as far as there can be such, for each line that the chapter names.
func TestCompareOne(t *testing.T) {
	subs := func(name string, plans ...plan) []plan { return append(plans, makes("x"), subscribes(name)) }
	for _, c := range []struct {
		what string
		a, b *store.Store
		want []string
	}{
		{"validities", begun(t, 7, 1, 2), begun(t, 8, 1, 2), []string{`validity "INBOX" 7 8`}},
		{"next", begun(t, 7, 1, 2), begun(t, 7, 5, 2), []string{`next "INBOX" 1 5`}},
		{"highest and last", begun(t, 7, 1, 2), begun(t, 7, 1, 3), []string{`highest "INBOX" 1 2`, "last 1 2"}},
		{"the chapter's example", begun(t, 7, 1, 2), begun(t, 8, 1, 3), []string{`validity "INBOX" 7 8`, `highest "INBOX" 1 2`, "last 1 2"}},
		{"the greatest numbers", begun(t, 1, 1, 2), begun(t, end, end, end), []string{`validity "INBOX" 1 4294967294`, `next "INBOX" 1 4294967294`, `highest "INBOX" 1 4294967293`, "last 1 4294967293"}},
		{"last alone", of(t, makes("a"), subscribes("a"), unsubscribes("a")), of(t, makes("a")), []string{"last 4 2"}},
		{"a mailbox", of(t, makes("a")), of(t, subscribes("INBOX"), unsubscribes("INBOX")), []string{`only first "a"`, "last 2 3"}},
		{"a mailbox, last alike", of(t, makes("a"), makes("b"), drops("a")), of(t, makes("q"), drops("q"), makes("b")), []string{`highest "b" 3 4`}},
		{"names", of(t, makes("a")), of(t, makes("b")), []string{`only first "a"`, `only second "b"`}},
		{"messages", of(t, adds("INBOX", "x"), adds("INBOX", "y"), expunges(7, 1)), of(t, adds("INBOX", "x"), adds("INBOX", "y"), expunges(7, 2)), []string{`only second "INBOX" 1`, `only first "INBOX" 2`}},
		{"modseqs", of(t, adds("INBOX", "x"), makes("a"), turns(7, 1, []int{1}, "k"), adds("INBOX", "y")), of(t, makes("a"), adds("INBOX", "x", "k"), subscribes("a"), adds("INBOX", "y")),
			[]string{`modseq "INBOX" 1 4 3`, `highest "a" 3 2`, `only second subscription "a"`}},
		{"flags", of(t, adds("INBOX", "x", "k")), of(t, adds("INBOX", "x", "K")), []string{`flags "INBOX" 1 (k) (K)`}},
		{"more flags", of(t, adds("INBOX", "x", `\Seen`, "b", "a")), of(t, adds("INBOX", "x")), []string{`flags "INBOX" 1 (\Seen a b) ()`}},
		{"a flag of several", of(t, adds("INBOX", "x", "b", "a")), of(t, adds("INBOX", "x", "b", "c")), []string{`flags "INBOX" 1 (a b) (b c)`}},
		{"bodies", of(t, adds("INBOX", "x")), of(t, adds("INBOX", "x ")), []string{`body "INBOX" 1`}},
		{"bodies of one length", of(t, adds("INBOX", "\x00")), of(t, adds("INBOX", "\x01")), []string{`body "INBOX" 1`}},
		{"dates", of(t, addsOn(day, "INBOX", "x")), of(t, addsOn(early, "INBOX", "x")), []string{`date "INBOX" 1`}},
		{"dates of one moment", of(t, addsOn(day, "INBOX", "x")), of(t, addsOn(api.Moment{Year: 2026, Month: 11, Day: 14, Hour: 9}, "INBOX", "x")), []string{`date "INBOX" 1`}},
		{"subscriptions", of(t, makes("a"), makes("b"), subscribes("a")), of(t, makes("a"), makes("b"), subscribes("b")), []string{`only first subscription "a"`, `only second subscription "b"`}},
		{"a name that both are subscribed to", of(t, subs("x")...), of(t, subs("x")...), nil},
	} {
		wantCompare(t, c.what, c.a, c.b, c.want...)
		if c.what == "modseqs" {
			continue
		}
		wantCompare(t, c.what+", the other way round", c.b, c.a, slowCompare(c.b, c.a)...)
	}
}

// P21.6: all of a message's lines, and in their order, with a name that needs quotes.
func TestCompareOrder(t *testing.T) {
	a := of(t, makes("\"é"), addsOn(day, "\"é", "x", "k"), adds("inbox", "1"), subscribes("\"é"), makes("z"), makes("y/w"))
	b := begun(t, 17, 1, 12)
	done(t, b, makes("\"é"), addsOn(early, "\"é", "y", "l", `\Draft`), adds("\"é", "z"), adds("inbox", "2"), adds("inbox", "3"), subscribes("inbox"), makes("y/x"))
	wantCompare(t, "many", a, b,
		`validity "\"\xc3\xa9" 8 18`, `next "\"\xc3\xa9" 2 3`, `highest "\"\xc3\xa9" 3 14`,
		`modseq "\"\xc3\xa9" 1 3 13`, `flags "\"\xc3\xa9" 1 (k) (\Draft l)`, `date "\"\xc3\xa9" 1`, `body "\"\xc3\xa9" 1`, `only second "\"\xc3\xa9" 2`,
		`validity "INBOX" 7 17`, `next "INBOX" 2 3`, `highest "INBOX" 4 16`, `modseq "INBOX" 1 4 15`, `body "INBOX" 1`, `only second "INBOX" 2`,
		`validity "y" 10 19`, `highest "y" 7 18`, `only first "y/w"`, `only second "y/x"`, `only first "z"`,
		`only first subscription "\"\xc3\xa9"`, `only second subscription "INBOX"`, "last 7 18")
	wantCompare(t, "the other way round", b, a,
		`validity "\"\xc3\xa9" 18 8`, `next "\"\xc3\xa9" 3 2`, `highest "\"\xc3\xa9" 14 3`,
		`modseq "\"\xc3\xa9" 1 13 3`, `flags "\"\xc3\xa9" 1 (\Draft l) (k)`, `date "\"\xc3\xa9" 1`, `body "\"\xc3\xa9" 1`, `only first "\"\xc3\xa9" 2`,
		`validity "INBOX" 17 7`, `next "INBOX" 3 2`, `highest "INBOX" 16 4`, `modseq "INBOX" 1 15 4`, `body "INBOX" 1`, `only first "INBOX" 2`,
		`validity "y" 19 10`, `highest "y" 18 7`, `only second "y/w"`, `only first "y/x"`, `only second "z"`,
		`only second subscription "\"\xc3\xa9"`, `only first subscription "INBOX"`, "last 18 7")
}

// P21.6: a mailbox that only one has is one line, whatever is in it.
func TestCompareNothingMore(t *testing.T) {
	a := of(t, makes("a"), adds("a", "x", "k"), adds("a", "y"), subscribes("INBOX"), unsubscribes("INBOX"))
	b := of(t, makes("b"), adds("b", "x", "k"), adds("b", "y"), subscribes("b"), unsubscribes("b"))
	wantCompare(t, "two mailboxes", a, b, `only first "a"`, `only second "b"`)
}

// P21.6: what only one of two has: five things, each had by the first, the second, both or none, so at the begin, between others and at the end.
func TestCompareSides(t *testing.T) {
	names := []string{"A", "Z", "a", "a-b", "é"} // INBOX stands behind A
	base := fresh(t)
	for _, name := range names {
		done(t, base, adds("INBOX", "x"), makes(name))
	}
	for _, name := range names {
		done(t, base, subscribes(name))
	}
	for _, c := range []struct {
		what string
		key  func(i int) string               // how a line names one of them
		take func(s *store.Store, left []int) // takes those away
		more func(a, b *store.Store) []string // lines beside those
	}{
		{"mailboxes", func(i int) string { return slowQuoted(names[i]) }, func(s *store.Store, left []int) {
			for _, i := range left {
				done(t, s, drops(names[i]))
			}
		}, func(a, b *store.Store) []string { return nil }},
		{"messages", func(i int) string { return fmt.Sprint(`"INBOX" `, i+1) }, func(s *store.Store, left []int) {
			if len(left) > 0 {
				for i := range left {
					left[i]++
				}
				done(t, s, expunges(7, left...))
			}
		}, func(a, b *store.Store) []string {
			if a.Last() != b.Last() {
				return []string{fmt.Sprint(`highest "INBOX" `, highest(a), " ", highest(b))}
			}
			return nil
		}},
		{"subscriptions", func(i int) string { return "subscription " + slowQuoted(names[i]) }, func(s *store.Store, left []int) {
			for _, i := range left {
				done(t, s, unsubscribes(names[i]))
			}
		}, func(a, b *store.Store) []string { return nil }},
	} {
		for one := range 32 {
			for two := range 32 {
				a, b := base.Twin(), base.Twin()
				c.take(a, without(one))
				c.take(b, without(two))
				want := c.more(a, b)
				for i := range names {
					if first, second := one>>i&1, two>>i&1; first != second {
						want = append(want, fmt.Sprint("only ", side(first == 1), " ", c.key(i)))
					}
				}
				if a.Last() != b.Last() {
					want = append(want, fmt.Sprint("last ", a.Last(), " ", b.Last()))
				}
				wantCompare(t, fmt.Sprint(c.what, " ", one, " ", two), a, b, want...)
			}
		}
	}
}

// without are those of 0 to 4 that bits do not choose.
func without(bits int) []int {
	var out []int
	for i := range 5 {
		if bits>>i&1 == 0 {
			out = append(out, i)
		}
	}
	return out
}

func highest(s *store.Store) int {
	b, _ := s.Box("INBOX")
	return b.Highest
}

// P21.6: random stores that go on from one beginning by themselves, and such as have nothing in common, against a Compare of another make.
func TestCompareRandom(t *testing.T) {
	r := rand.New(rand.NewPCG(21, 7))
	words := map[string]int{}
	for range 2500 {
		a := begun(t, 7, 1, 2)
		goOn(r, a, r.IntN(25))
		b := a.Twin()
		switch r.IntN(6) {
		case 0:
			b = begun(t, oneOf(r, 7, 8), oneOf(r, 1, 2), oneOf(r, 2, 3))
			goOn(r, b, r.IntN(20))
		case 1:
			b = oneOf(r, nil, &store.Store{})
		}
		if len(b.Boxes()) > 0 {
			goOn(r, a, r.IntN(6))
			goOn(r, b, r.IntN(6))
		}
		want := slowCompare(a, b)
		wantCompare(t, "random ones", a, b, want...)
		wantCompare(t, "random ones, the other way round", b, a, slowCompare(b, a)...)
		for _, line := range want {
			all := strings.Fields(line)
			word := all[0]
			if word == "only" {
				word = strings.Join(all[:2], " ")
				if all[2] == "subscription" {
					word += " subscription"
				} else if last := all[len(all)-1]; strings.Trim(last, "0123456789") == "" {
					word += " uid"
				}
			}
			words[word]++
		}
		if len(want) == 0 {
			words["nothing"]++
		}
	}
	for _, word := range []string{"only first", "only second", "only first uid", "only second uid", "only first subscription", "only second subscription", "validity", "next", "highest", "modseq", "flags", "date", "body", "last", "nothing"} {
		if words[word] < 20 {
			t.Errorf("there were %d lines of %s alone", words[word], word)
		}
	}
}

// P21.6: what Compare tells turns round with its stores; stores that events lie between differ.
func TestCompareTurns(t *testing.T) {
	r := rand.New(rand.NewPCG(21, 8))
	turned := strings.NewReplacer("only first", "only second", "only second", "only first")
	for range 300 {
		a := fresh(t)
		goOn(r, a, r.IntN(10))
		b := a.Twin()
		journal := joined(frames(t, goOn(r, a, r.IntN(5))...))
		one, two := tool.Compare(a, b), tool.Compare(b, a)
		if len(one) != len(two) {
			t.Fatalf("P21.6: %q and %q", one, two)
		}
		for i, line := range one {
			if strings.HasPrefix(line, "only") && turned.Replace(line) != two[i] {
				t.Errorf("P21.6: %q and %q", line, two[i])
			}
		}
		wantCheck(t, "what lies between them", b, journal)
		if (len(one) == 0) != (journal == "") {
			t.Errorf("P21.6: %q, and %d bytes of a journal", one, len(journal))
		}
	}
}
