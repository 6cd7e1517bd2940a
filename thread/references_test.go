package thread_test

import (
	"fmt"
	"math/rand/v2"
	"slices"
	"strconv"
	"strings"
	"testing"

	"postbag/api"
	"postbag/thread"
)

// maker makes threads of cards.
type maker func(cards []api.Card) []api.Twig

func makers() map[string]maker {
	return map[string]maker{"BySubject": thread.BySubject, "ByReferences": thread.ByReferences}
}

// cards numbers cards from 1 on: their Seqs and Uids.
func cards(l ...api.Card) []api.Card {
	for i := range l {
		l[i].Seq, l[i].Uid = i+1, i+1
	}
	return l
}

// refs is ids, written with blanks between them; - is the empty one.
func refs(line string) []string {
	l := strings.Fields(line)
	for i := range l {
		l[i] = strings.TrimPrefix(l[i], "-")
	}
	return l
}

// node is a card with an id that refers to others.
func node(id, refer string) api.Card { return api.Card{Id: id, Refs: refs(refer)} }

// on is a card with a subject.
func on(subject string) api.Card { return api.Card{Subject: subject} }

// re is a card that answers.
func re(subject string) api.Card { return api.Card{Subject: subject, Reply: true} }

// sent is a card with a date.
func sent(date int, c api.Card) api.Card {
	c.Sent = date
	return c
}

// under is a card that refers to others.
func under(refer string, c api.Card) api.Card {
	c.Refs = refs(refer)
	return c
}

func lookAtThreads(t *testing.T, name string, make maker, cards []api.Card, want string) {
	t.Helper()
	got := make(cards)
	if line := shownTwigs(got); thread.Line(got) != want {
		t.Errorf("%s(%+v): %s %s, not %s", name, cards, thread.Line(got), line, want)
	}
}

// P8.4: which cards are left out, and which of two with one uid.
func TestThreadsTake(t *testing.T) {
	for name, make := range makers() {
		for _, uid := range []int{least, -1, 0, api.MaxNumber, api.MaxNumber + 1, most} {
			lookAtThreads(t, name, make, []api.Card{{Uid: uid}}, "")
			lookAtThreads(t, name, make, []api.Card{{Uid: uid}, {Uid: 5}}, "(5)")
			lookAtThreads(t, name, make, []api.Card{{Uid: uid, Id: "a", Subject: "s", Sent: -9}, {Seq: 1, Uid: 5, Subject: "s", Refs: refs("a"), Sent: 1}, {Seq: 2, Uid: 6, Refs: refs("b"), Subject: "t"}}, "(6)(5)")
		}
		for _, uid := range []int{1, 2, api.MaxNumber - 1} {
			lookAtThreads(t, name, make, []api.Card{{Uid: uid}}, "("+strconv.Itoa(uid)+")")
		}
		lookAtThreads(t, name, make, nil, "")
		lookAtThreads(t, name, make, []api.Card{}, "")
		// of two with one uid the one with the lesser Seq is taken, be it later, or further behind
		lookAtThreads(t, name, make, []api.Card{{Seq: 2, Uid: 1, Subject: "a"}, {Seq: 1, Uid: 1, Subject: "b", Sent: 9}, {Seq: 3, Uid: 2, Subject: "c", Sent: 5}}, "(2)(1)")
		lookAtThreads(t, name, make, []api.Card{{Seq: 1, Uid: 1, Subject: "a", Sent: 9}, {Seq: 1, Uid: 1, Subject: "b"}, {Seq: 1, Uid: 2, Subject: "c", Sent: 5}}, "(2)(1)")
		lookAtThreads(t, name, make, []api.Card{{Seq: 1, Uid: 1, Subject: "a"}, {Seq: 0, Uid: 1, Subject: "b"}, {Seq: -1, Uid: 1, Subject: "c"}}, "(1)")
		// earlier: by Sent, by Seq, by place
		lookAtThreads(t, name, make, []api.Card{{Seq: 1, Uid: 1, Subject: "a", Sent: 2}, {Seq: 2, Uid: 2, Subject: "b", Sent: 1}, {Seq: 3, Uid: 3, Subject: "c", Sent: -1}}, "(3)(2)(1)")
		lookAtThreads(t, name, make, []api.Card{{Seq: 3, Uid: 1, Subject: "a"}, {Seq: 1, Uid: 2, Subject: "b"}, {Seq: 2, Uid: 3, Subject: "c"}}, "(2)(3)(1)")
		lookAtThreads(t, name, make, []api.Card{{Uid: 3, Subject: "a"}, {Uid: 1, Subject: "b"}, {Uid: 2, Subject: "c"}}, "(3)(1)(2)")
		lookAtThreads(t, name, make, []api.Card{{Uid: 3, Subject: "a", Sent: most}, {Uid: 1, Subject: "b", Sent: least}, {Uid: 2, Subject: "c", Seq: most}}, "(1)(2)(3)")
	}
}

// P8.5.
func TestBySubject(t *testing.T) {
	for _, c := range []struct {
		cards []api.Card
		want  string
	}{
		{cards(sent(9, on("a")), sent(3, on("b")), sent(5, on("a")), sent(7, on("a"))), "(2)(3 (4)(1))"},
		{cards(on(""), on("")), "(1 2)"},
		{cards(on(""), on("a"), on(""), on("a"), on("")), "(1 (3)(5))(2 4)"},
		{cards(on("a"), on("A"), on("a "), on("a\x00")), "(1)(2)(3)(4)"},
		{cards(re("a"), on("a"), re("a")), "(1 (2)(3))"},
		{cards(sent(2, on("a")), sent(1, on("b")), sent(1, on("a")), sent(2, on("b"))), "(2 4)(3 1)"},
		{cards(node("x", "y"), node("y", "x")), "(1 2)"},
	} {
		lookAtThreads(t, "BySubject", thread.BySubject, c.cards, c.want)
	}
	r := rand.New(rand.NewPCG(8, 20))
	for range 20000 {
		l := someCards(r, r.IntN(10))
		if got, want := shownTwigs(thread.BySubject(l)), shownTwigs(slowBySubject(l)); got != want {
			t.Fatalf("BySubject(%+v): %s, not %s", l, got, want)
		}
	}
}

func lookAtReferences(t *testing.T, l []api.Card, want string) {
	t.Helper()
	lookAtThreads(t, "ByReferences", thread.ByReferences, l, want)
	if slow := shownTwigs(slowByReferences(l)); slow != shownTwigs(thread.ByReferences(l)) {
		t.Errorf("ByReferences(%+v): the slower one tells %s", l, slow)
	}
}

// P8.6, steps 1 and 2: nodes and hanging.
func TestReferencesHang(t *testing.T) {
	for _, c := range []struct {
		cards []api.Card
		want  string
	}{
		{cards(node("a", ""), node("b", "a"), node("c", "a b")), "(1 2 3)"},
		{cards(node("c", "a b"), node("b", "a"), node("a", "")), "(3 2 1)"},
		// an id that two cards have
		{cards(node("a", ""), node("a", "a"), node("", "a")), "(1 (2)(3))"},
		{cards(node("a", ""), node("a", ""), node("", "a")), "(1 3)(2)"},
		{cards(node("a", "b"), node("a", "c"), node("b", ""), node("c", "")), "(3 1)(4 2)"},
		{[]api.Card{{Seq: 2, Uid: 1, Id: "a"}, {Seq: 1, Uid: 2, Id: "a"}, {Seq: 3, Uid: 3, Refs: refs("a")}}, "(2 3)(1)"},
		// ids that are empty
		{cards(node("", ""), node("", "-")), "(1)(2)"},
		{cards(node("a", ""), node("", "- a -"), node("b", "- -")), "(1 2)(3)"},
		{cards(node("b", ""), node("", "a - b"), node("a", "")), "(3 1 2)"},
		// ids that no card has, which differ in case
		{cards(node("", "x")), "(1)"},
		{cards(node("", "x"), node("", "X")), "(1)(2)"},
		{cards(node("a", ""), node("", "A")), "(1)(2)"},
		{cards(node("", "x"), node("", "x")), "((1)(2))"},
		{cards(node("", "x y"), node("", "z y"), node("", "z")), "((1)(2))(3)"},
		// a row's hanging does not move what hangs already
		{cards(node("a", ""), node("b", ""), node("c", ""), node("", "a c"), node("", "b c")), "(1 3 (4)(5))(2)"},
		{cards(node("", "x y"), node("", "z y"), node("x", ""), node("z", "")), "(3 (1)(2))(4)"},
		// but a card that hangs is taken off, and hung anew
		{cards(node("", "a b"), node("b", "c"), node("a", ""), node("c", "")), "(3)(4 2 1)"},
		{cards(node("c", "a b"), node("b", "z"), node("a", "")), "(2 1)(3)"},
		{cards(node("", "a b"), node("b", ""), node("a", "")), "(2 1)(3)"},
		{cards(node("", "a b"), node("b", "- -"), node("a", "")), "(2 1)(3)"},
		// a card that was taken may hang by a later row, if it hangs below none
		{cards(node("b", ""), node("a", ""), node("", "a b")), "(2 1 3)"},
		{cards(node("b", "c"), node("a", ""), node("", "a b"), node("c", "")), "(2)(4 1 3)"},
		{cards(node("", "a b"), node("b", ""), node("a", ""), node("", "a b")), "(3 2 (1)(4))"},
		// the row goes on behind what could not be hung
		{cards(node("", "a a b"), node("a", ""), node("b", "a")), "(2 3 1)"},
		{cards(node("", "a b a c"), node("a", ""), node("b", "a"), node("c", "")), "(2 3)(4 1)"},
		// below itself
		{cards(node("a", "a")), "(1)"},
		{cards(node("a", "b a")), "(1)"},
		{cards(node("", "x x")), "(1)"},
		{cards(node("a", "a"), node("", "a")), "(1 2)"},
		{cards(node("a", "b a"), node("b", "")), "(1)(2)"},
		{cards(node("a", "a b"), node("b", "")), "(1)(2)"},
		{cards(node("b", ""), node("a", "a b")), "(2 1)"},
		// loops of two, three and more
		{cards(node("a", "b"), node("b", "a")), "(2 1)"},
		{cards(node("a", "b"), node("b", "c"), node("c", "a")), "(3 2 1)"},
		{cards(node("a", "d"), node("b", "a"), node("c", "b"), node("d", "c")), "(4 1 2 3)"},
		{cards(node("", "x y"), node("", "y x")), "((1)(2))"},
		{cards(node("", "x y z"), node("", "z x")), "((1)(2))"},
		{cards(node("a", "x b"), node("b", "a"), node("", "a x")), "(2 1 3)"},
		// taken off, and not hung again, since it would go around
		{cards(node("", "a b c"), node("b", "c"), node("c", "x"), node("a", "")), "(2)(3 1)(4)"},
		{cards(node("c", "a b"), node("b", "c"), node("a", "")), "(2 1)(3)"},
	} {
		lookAtReferences(t, c.cards, c.want)
	}
}

// P8.6, steps 3 and 4: nodes that are no message, and the order of twigs.
func TestReferencesTwigs(t *testing.T) {
	for _, c := range []struct {
		cards []api.Card
		want  string
	}{
		// no message, at the root: one below it, two, and none
		{cards(node("", "x")), "(1)"},
		{cards(sent(2, node("", "x")), sent(1, node("", "x"))), "((2)(1))"},
		{cards(node("", "x"), node("", "x"), node("", "x")), "((1)(2)(3))"},
		{cards(node("", "x y"), node("a", ""), node("", "a y")), "((1)(3))(2)"},
		{cards(node("a", "x y"), node("", "y a"), node("", "x")), "((1 2)(3))"},
		// further down, one below another
		{cards(node("a", ""), node("", "a x"), node("", "x")), "(1 (2)(3))"},
		{cards(node("a", ""), node("", "a x y"), node("", "x y"), node("", "x")), "(1 (2)(3)(4))"},
		{cards(node("", "x y z")), "(1)"},
		{cards(node("", "x y z"), node("", "x")), "((1)(2))"},
		{cards(node("", "x y z"), node("", "x y"), node("b", "x"), node("", "b w"), node("", "w")), "((1)(2)(3 (4)(5)))"},
		{cards(node("", "x y"), node("", "z w"), node("", "x w")), "(1)((2)(3))"},
		{cards(node("a", "w x"), node("", "a y"), node("", "y z")), "(1 (2)(3))"},
		// order by dates, of twigs with and without a message
		{cards(sent(5, node("a", "")), sent(4, node("", "a")), sent(3, node("", "a")), sent(4, node("", "a"))), "(1 (3)(2)(4))"},
		{cards(sent(5, node("", "x")), sent(1, node("", "x")), sent(3, node("", ""))), "((2)(1))(3)"},
		{cards(sent(5, node("", "x")), sent(4, node("", "x")), sent(3, node("", ""))), "(3)((2)(1))"},
		{cards(sent(3, node("", "x")), sent(9, node("", "x")), sent(2, node("", "y")), sent(8, node("", "y"))), "((3)(4))((1)(2))"},
		{cards(sent(9, node("a", "")), sent(1, node("", "a")), sent(5, node("b", ""))), "(3)(1 2)"},
		{cards(sent(1, node("", "a")), sent(9, node("a", "x")), sent(2, node("", "x")), sent(5, node("", ""))), "((3)(2 1))(4)"},
		{[]api.Card{{Seq: 2, Uid: 1, Refs: refs("x")}, {Seq: 1, Uid: 2, Refs: refs("x")}, {Seq: 1, Uid: 3, Refs: refs("x")}, {Uid: 4, Sent: 1, Refs: refs("x")}}, "((2)(3)(1)(4))"},
	} {
		lookAtReferences(t, c.cards, c.want)
	}
}

// P8.6, steps 5 and 6: subjects, and order again.
func TestReferencesSubjects(t *testing.T) {
	for _, c := range []struct {
		cards []api.Card
		want  string
	}{
		// two messages that do not answer, or do both; one that answers
		{cards(on("s"), on("s")), "((1)(2))"},
		{cards(re("s"), re("s")), "((1)(2))"},
		{cards(on("s"), re("s")), "(1 2)"},
		{cards(re("s"), on("s")), "(2 1)"},
		{cards(on("s"), re("s"), on("s"), on("")), "((1 2)(3))(4)"},
		{cards(on(""), re(""), on("")), "(1)(2)(3)"},
		{cards(on("s"), on("S"), on("s ")), "(1)(2)(3)"},
		// the chief gives up to the first that does not answer, and not again
		{cards(re("s"), re("s"), on("s"), on("s"), re("s")), "((3 (1)(2))(4)(5))"},
		{cards(re("s"), re("s"), on("s"), re("s")), "(3 (1)(2)(4))"},
		{cards(re("s"), on("s"), on("s")), "((2 1)(3))"},
		{cards(re("s"), on("s"), re("s"), on("s"), re("s")), "((2 (1)(3))(4)(5))"},
		{cards(on("s"), re("s"), re("s"), on("s"), re("s")), "((1 (2)(3))(4)(5))"},
		// the chief gives up to one with the Uid 0, which gives up to none
		{cards(on("s"), under("x", on("s")), under("x", on("t"))), "((1)(2)(3))"},
		{cards(re("s"), under("x", on("s")), under("x", on("t"))), "((1)(2)(3))"},
		{cards(re("s"), on("s"), under("x", on("s")), under("x", on("t"))), "((1)(2)(3)(4))"},
		{cards(under("x", on("s")), under("x", on("t")), on("s"), re("s")), "((1)(2)(3)(4))"},
		{cards(on("s"), under("x", re("s")), under("x", on("t"))), "((1)(2)(3))"},
		{cards(re("s"), under("x", re("s")), under("x", on("t")), on("s")), "((1)(2)(3)(4))"},
		// both have the Uid 0
		{cards(under("x", on("s")), under("x", on("")), under("y", on("s")), under("y", on("t"))), "((1)(2)(3)(4))"},
		{cards(sent(5, under("x", on("s"))), sent(8, under("x", on(""))), sent(6, under("y", on("s"))), sent(7, under("y", on("t")))), "((1)(3)(4)(2))"},
		{cards(on("s"), under("x", on("s")), under("x", on("")), under("y", on("s")), under("y", on("t")), re("s")), "((1)(2)(3)(4)(5)(6))"},
		// the subject of one with the Uid 0 is that of the earliest of its Kids
		{cards(sent(2, under("x", on("s"))), sent(1, under("x", on("t"))), on("t"), sent(3, on("s"))), "((3)(2)(1))(4)"},
		{cards(under("x", on("")), under("x", on("s")), on("s"), re("s")), "((1)(2))(3 4)"},
		// the subject of a message counts, not that of what hangs below it
		{cards(api.Card{Id: "a", Subject: "s"}, under("a", on("t")), on("t")), "(1 2)(3)"},
		{cards(api.Card{Id: "a"}, under("a", on("t")), on("t"), re("t")), "(1 2)(3 4)"},
		// a root with others below it goes with them
		{cards(on("s"), api.Card{Id: "a", Subject: "s", Reply: true}, under("a", on("s"))), "(1 2 3)"},
		{cards(on("s"), api.Card{Id: "a", Subject: "s"}, under("a", on("s"))), "((1)(2 3))"},
		{cards(api.Card{Id: "a", Subject: "s", Reply: true}, under("a", on("s")), on("s")), "(3 1 2)"},
		// order again: the answer that came later may be the earlier one
		{cards(api.Card{Id: "a", Subject: "s", Sent: 1}, sent(9, under("a", on("u"))), sent(5, re("s"))), "(1 (3)(2))"},
		{cards(api.Card{Id: "a", Subject: "s", Sent: 2}, sent(9, under("a", on("u"))), sent(5, re("s")), sent(7, on("s"))), "((1 (3)(2))(4))"},
		{cards(sent(1, re("s")), sent(5, on("s")), sent(3, on("t"))), "(3)(2 1)"},
		{cards(sent(1, re("s")), sent(5, under("x", on("s"))), sent(6, under("x", on("s"))), sent(3, on("t"))), "((1)(2)(3))(4)"},
		{cards(sent(1, on("t")), sent(2, re("s")), sent(5, re("s"))), "(1)((2)(3))"},
		{cards(sent(4, re("s")), sent(3, re("s")), sent(2, on("t")), sent(1, re("t"))), "(3 4)((2)(1))"},
		// several subjects at once
		{cards(on("s"), on("t"), re("s"), re("t"), on("s"), on("u")), "((1 3)(5))(2 4)(6)"},
	} {
		lookAtReferences(t, c.cards, c.want)
	}
}

// P8.6, P8.10, P8.11, P8.12: random cards, against a slower one.
func TestReferencesRandom(t *testing.T) {
	r := rand.New(rand.NewPCG(8, 21))
	for range 100000 {
		l := someCards(r, r.IntN(11))
		if got, want := shownTwigs(thread.ByReferences(l)), shownTwigs(slowByReferences(l)); got != want {
			t.Fatalf("ByReferences(%+v): %s, not %s", l, got, want)
		}
	}
}

// deepCards refer to neighbours, so that they hang deep, are taken off, and go around.
func deepCards(r *rand.Rand, n, wide int) []api.Card {
	l := make([]api.Card, n)
	for i, seq := range r.Perm(n) {
		l[i] = api.Card{Seq: seq, Uid: 1 + i, Sent: r.IntN(n), Id: strconv.Itoa(i), Subject: oneOf(r, "", "", "", "s"), Reply: r.IntN(2) == 0}
		if r.IntN(20) == 0 {
			l[i].Id = ""
		}
		for range oneOf(r, 0, 1, 1, 1, 1, 2, 3, 9) {
			l[i].Refs = append(l[i].Refs, strconv.Itoa(i-wide+r.IntN(2*wide-wide/2)))
		}
	}
	return l
}

// P8.6, P8.12: many cards that hang deep.
func TestReferencesDeep(t *testing.T) {
	r := rand.New(rand.NewPCG(8, 22))
	for range 300 {
		l := deepCards(r, 20+r.IntN(150), 1+r.IntN(6))
		if got, want := shownTwigs(thread.ByReferences(l)), shownTwigs(slowByReferences(l)); got != want {
			t.Fatalf("ByReferences(%+v): %s, not %s", l, got, want)
		}
	}
}

// uids is all uids of twigs, and looks at those with the Uid 0.
func uids(t *testing.T, twigs []api.Twig, deep int) []int {
	t.Helper()
	var all []int
	for _, w := range twigs {
		if w.Uid != 0 {
			all = append(all, w.Uid)
		} else if deep > 0 || len(w.Kids) < 2 {
			t.Fatalf("a twig with the Uid 0, %d deep, with %d Kids", deep, len(w.Kids))
		}
		all = append(all, uids(t, w.Kids, deep+1)...)
	}
	return all
}

// P8.10: each card just once; a line that is read again.
func TestThreadsOnce(t *testing.T) {
	r := rand.New(rand.NewPCG(8, 23))
	for range 10000 {
		n := r.IntN(30)
		if r.IntN(8) == 0 {
			n = api.MaxMails
		}
		l := someCards(r, n)
		if r.IntN(3) == 0 {
			l = deepCards(r, n, 1+r.IntN(3))
		}
		var want []int
		for _, c := range slowTake(l) {
			want = append(want, c.Uid)
		}
		slices.Sort(want)
		for name, make := range makers() {
			twigs := make(l)
			got := uids(t, twigs, 0)
			slices.Sort(got)
			if !slices.Equal(got, want) {
				t.Fatalf("%s(%+v): %s", name, l, shownTwigs(twigs))
			}
			line := thread.Line(twigs)
			again, e := thread.ReadLine(line)
			if e != api.OK || shownTwigs(again) != shownTwigs(twigs) || (line == "") != (len(want) == 0) {
				t.Fatalf("%s(%+v): %q, %d, %s", name, l, line, e, shownTwigs(again))
			}
		}
	}
}

// P8.11: the order of the cards, with unlike Seqs; a card by itself.
func TestThreadsShuffled(t *testing.T) {
	r := rand.New(rand.NewPCG(8, 24))
	for range 10000 {
		l := someCards(r, r.IntN(12))
		for i, seq := range r.Perm(len(l)) {
			l[i].Seq = seq
		}
		for name, make := range makers() {
			want := shownTwigs(make(l))
			r.Shuffle(len(l), func(i, j int) { l[i], l[j] = l[j], l[i] })
			if got := shownTwigs(make(l)); got != want {
				t.Fatalf("%s(%+v): %s, in another order %s", name, l, got, want)
			}
		}
		own := api.Card{Seq: -1, Uid: 777, Sent: r.IntN(5), Reply: r.IntN(2) == 0, Id: oneOf(r, "", "own")}
		at := slices.IndexFunc(thread.ByReferences(append(l, own)), func(w api.Twig) bool { return w.Uid == 777 && len(w.Kids) == 0 })
		if at < 0 {
			t.Fatalf("%+v: %+v is no thread of its own", l, own)
		}
	}
}

// P8.12, W6: what is handed in stays as it was; what is answered is its own.
func TestThreadsMemory(t *testing.T) {
	r := rand.New(rand.NewPCG(8, 25))
	for range 2000 {
		l := roomyCards(someCards(r, r.IntN(12)))
		before := shownCards(l)
		for name, make := range makers() {
			a, b := make(l), make(l)
			lookAtRooms(t, name, l, a, b)
			want := shownTwigs(a)
			scribbleTwigs(a)
			if got := shownTwigs(b); got != want {
				t.Fatalf("%s: %s, then %s", name, want, got)
			}
			if got := shownTwigs(make(l)); got != want {
				t.Fatalf("%s: %s, then %s", name, want, got)
			}
			if after := shownCards(l); after != before {
				t.Fatalf("%s: what was handed in: %s, not %s", name, after, before)
			}
			c := make(l)
			for i := range l {
				l[i] = api.Card{Subject: "scribbled", Uid: 5}
			}
			if got := shownTwigs(c); got != want {
				t.Fatalf("%s: %s, then %s", name, want, got)
			}
			l = roomyCards(someCards(r, r.IntN(12)))
			before = shownCards(l)
		}
	}
}

// ring is n cards, each of which refers to the one ahead of it, and the first to the last.
func ring(n int) []api.Card {
	l := make([]api.Card, n)
	for i := range l {
		l[i] = api.Card{Seq: i, Uid: i + 1, Id: strconv.Itoa(i), Refs: []string{strconv.Itoa((i + n - 1) % n)}}
	}
	return l
}

// depth is how deep twigs lie, and how many they are, without deep calls.
func depth(twigs []api.Twig) (int, int) {
	deep, count := 0, 0
	for level := twigs; len(level) > 0; deep++ {
		var next []api.Twig
		for _, w := range level {
			count++
			next = append(next, w.Kids...)
		}
		level = next
	}
	return deep, count
}

// P8.12, W1: references that go around, of any number of cards.
func TestReferencesRings(t *testing.T) {
	for n := 1; n < 40; n++ {
		l := ring(n)
		want := "(" + strconv.Itoa(n)
		for i := 1; i < n; i++ {
			want += " " + strconv.Itoa(i)
		}
		lookAtReferences(t, l, want+")")
	}
	twigs := thread.ByReferences(ring(200000))
	if deep, count := depth(twigs); deep != 200000 || count != 200000 || twigs[0].Uid != 200000 {
		t.Errorf("a ring: %d deep, %d twigs", deep, count)
	}
}

// large is kinds of many cards, by what hangs below what.
func large(n int) map[string]func(i int) api.Card {
	id := func(i int) string { return "n" + strconv.Itoa(i) }
	return map[string]func(i int) api.Card{
		// each below the one ahead; each below the one behind
		"row":      func(i int) api.Card { return node(id(i), id(i-1)) },
		"backward": func(i int) api.Card { return node(id(i), id(i+1)) },
		// two below each of a row
		"double": func(i int) api.Card { return node(id(i), id((i-1)/2*2)) },
		// the later half asks over and over whether the topmost hangs below the lowest
		"around": func(i int) api.Card {
			if i < n/2 {
				return node(id(i), id(i-1))
			}
			return node("", id(n/2-1)+" "+id(0))
		},
		// cards with others below them are hung deep below others
		"pairs": func(i int) api.Card {
			if i%2 == 0 {
				return node("k"+id(i), "c"+id(i))
			}
			return node("c"+id(i-1), "k"+id(i-3))
		},
		"star":  func(i int) api.Card { return node("", "x") },
		"alone": func(i int) api.Card { return node(id(i), "") },
		"alike": func(i int) api.Card { return on("s") },
		"answers": func(i int) api.Card {
			return api.Card{Subject: "s", Reply: i > 0, Sent: n - i}
		},
	}
}

// P8.6, W1: many cards.
func TestReferencesLarge(t *testing.T) {
	const n = 100000
	deep := map[string]int{"row": n, "backward": n, "double": n/2 + 1, "around": n / 2, "pairs": n, "star": 2, "alone": 1, "alike": 2, "answers": 2}
	for name, card := range large(n) {
		l := make([]api.Card, n)
		for i := range l {
			l[i] = card(i)
		}
		l = cards(l...)
		twigs := thread.ByReferences(l)
		d, count := depth(twigs)
		if name == "star" || name == "alike" {
			count--
		}
		if count != n || d != deep[name] {
			t.Errorf("%s: %d deep, %d twigs", name, d, count)
		}
		if d, count := depth(thread.BySubject(l)); d != 2 || count != n {
			t.Errorf("%s by subject: %d deep, %d twigs", name, d, count)
		}
	}
}

// P8.6, W1: a card with many references, which no card has.
func TestReferencesLong(t *testing.T) {
	const n = 300000
	long := make([]string, n)
	for i := range long {
		long[i] = strconv.Itoa(i)
	}
	back := slices.Clone(long)
	slices.Reverse(back)
	l := cards(api.Card{Refs: long}, api.Card{Refs: back}, api.Card{Refs: long[:n/2]}, api.Card{Id: "7"})
	if got := thread.Line(thread.ByReferences(l)); got != "(2)(4 (1)(3))" {
		t.Errorf("%s", got)
	}
	fan := make([]api.Card, 200000)
	for i := range fan {
		fan[i] = api.Card{Seq: i, Uid: i + 1, Refs: long[n-1-i : n-i]}
	}
	fan[0].Refs = long
	if d, count := depth(thread.ByReferences(fan)); d != 2 || count != len(fan)+1 {
		t.Errorf("below a long row: %d deep, %d twigs", d, count)
	}
}

// P8.6: the examples of the chapter, whose Uids are 10 times the Seqs.
func TestReferencesExamples(t *testing.T) {
	for _, c := range []struct {
		cards []api.Card
		want  string
	}{
		{cards(node("a", ""), node("b", "a"), node("c", "a b")), "(10 20 30)"},
		{cards(sent(2, node("", "x")), sent(1, node("", "x"))), "((20)(10))"},
		{cards(node("", "x")), "(10)"},
		{cards(node("a", "b"), node("b", "a")), "(20 10)"},
		{cards(node("a", ""), node("a", "a"), node("", "a")), "(10 (20)(30))"},
		{cards(on("s"), re("s"), on("s"), on("")), "((10 20)(30))(40)"},
	} {
		for i := range c.cards {
			c.cards[i].Uid *= 10
		}
		lookAtReferences(t, c.cards, c.want)
	}
	if got := fmt.Sprint(thread.ByReferences(nil), thread.BySubject(nil)); got != "[] []" {
		t.Errorf("none: %s", got)
	}
}
