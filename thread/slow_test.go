package thread_test

import (
	"math/rand/v2"
	"slices"

	"postbag/api"
)

// someCards is random cards, whose texts and numbers are often alike.
func someCards(r *rand.Rand, n int) []api.Card {
	ids := []string{"", "a", "b", "c", "d", "e", "f"}[:2+r.IntN(6)]
	texts := []string{"", "s", "t", "sa"}[:1+r.IntN(4)]
	dates := 1 + r.IntN(5)
	cards := make([]api.Card, n)
	for i := range cards {
		c := api.Card{Seq: r.IntN(n + 1), Uid: 1 + i, Size: r.IntN(3), Arrival: r.IntN(3), Sent: r.IntN(dates)}
		c.From, c.To, c.Cc = oneOf(r, texts...), oneOf(r, texts...), oneOf(r, texts...)
		c.Subject, c.Id, c.Reply = oneOf(r, texts...), oneOf(r, ids...), r.IntN(3) == 0
		for range r.IntN(5) {
			c.Refs = append(c.Refs, oneOf(r, oneOf(r, ids...), oneOf(r, ids...), oneOf(r, "x", "y", "z")))
		}
		if r.IntN(12) == 0 {
			c.Uid = oneOf(r, 0, -1, 1, 2, api.MaxNumber, api.MaxNumber-1, api.MaxNumber+1, least, most)
		}
		cards[i] = c
	}
	return cards
}

// slow threads cards by the document's words, step by step, by places in lists, with no map and no pointer to a card.
type slow struct {
	cards []api.Card // as they are taken
	ids   []string   // of the nodes behind those of the cards
	up    []int      // what a node hangs below, or -1
}

// slowTake takes cards by looking for the least Seq that is left, again and again.
func slowTake(cards []api.Card) []api.Card {
	var taken []api.Card
	left := slices.Clone(cards)
	for len(left) > 0 {
		at := 0
		for i, c := range left {
			if c.Seq < left[at].Seq {
				at = i
			}
		}
		c := left[at]
		left = slices.Delete(left, at, at+1)
		had := slices.ContainsFunc(taken, func(o api.Card) bool { return o.Uid == c.Uid })
		if c.Uid >= 1 && c.Uid <= 4294967294 && !had {
			taken = append(taken, c)
		}
	}
	return taken
}

func (s *slow) earlier(a, b int) bool {
	if s.cards[a].Sent != s.cards[b].Sent {
		return s.cards[a].Sent < s.cards[b].Sent
	}
	return a < b
}

// byUid is the card with a uid.
func (s *slow) byUid(uid int) int {
	return slices.IndexFunc(s.cards, func(c api.Card) bool { return c.Uid == uid })
}

func slowBySubject(cards []api.Card) []api.Twig {
	s := slow{cards: slowTake(cards)}
	var threads []api.Twig
	for i := range s.cards {
		at := slices.IndexFunc(threads, func(t api.Twig) bool {
			return s.cards[s.byUid(t.Uid)].Subject == s.cards[i].Subject
		})
		own := api.Twig{Uid: s.cards[i].Uid}
		if at < 0 {
			threads = append(threads, own)
		} else {
			threads[at].Kids = append(threads[at].Kids, own)
		}
	}
	for i, t := range threads {
		row := append(slices.Clone(t.Kids), api.Twig{Uid: t.Uid})
		s.order(row)
		threads[i] = api.Twig{Uid: row[0].Uid, Kids: row[1:]}
	}
	s.order(threads)
	return threads
}

// first is the card whose date and subject a twig has.
func (s *slow) first(t api.Twig) int {
	if t.Uid == 0 {
		return s.byUid(t.Kids[0].Uid)
	}
	return s.byUid(t.Uid)
}

// order exchanges neighbours until all stand right, from the lowest twigs up.
func (s *slow) order(l []api.Twig) {
	for _, t := range l {
		s.order(t.Kids)
	}
	for done := false; !done; {
		done = true
		for i := 1; i < len(l); i++ {
			if s.earlier(s.first(l[i]), s.first(l[i-1])) {
				l[i], l[i-1] = l[i-1], l[i]
				done = false
			}
		}
	}
}

// node is the node of an id.
func (s *slow) node(id string) int {
	if at := slices.IndexFunc(s.cards, func(c api.Card) bool { return c.Id == id }); at >= 0 {
		return at
	}
	at := slices.Index(s.ids, id)
	if at < 0 {
		at = len(s.ids)
		s.ids = append(s.ids, id)
		s.up = append(s.up, -1)
	}
	return len(s.cards) + at
}

func (s *slow) hang(n, other int) {
	for p := other; p >= 0; p = s.up[p] {
		if p == n {
			return
		}
	}
	s.up[n] = other
}

func (s *slow) hangAll() {
	s.up = slices.Repeat([]int{-1}, len(s.cards))
	for i, c := range s.cards {
		refs := slices.DeleteFunc(slices.Clone(c.Refs), func(id string) bool { return id == "" })
		for k := 1; k < len(refs); k++ {
			above, below := s.node(refs[k-1]), s.node(refs[k])
			if s.up[below] < 0 {
				s.hang(below, above)
			}
		}
		s.up[i] = -1
		if len(refs) > 0 {
			s.hang(i, s.node(refs[len(refs)-1]))
		}
	}
}

// twigs is what stands in the place of a node.
func (s *slow) twigs(n int) []api.Twig {
	var below []api.Twig
	for i, up := range s.up {
		if up == n {
			below = append(below, s.twigs(i)...)
		}
	}
	if n < len(s.cards) {
		return []api.Twig{{Uid: s.cards[n].Uid, Kids: below}}
	}
	return below
}

func (s *slow) roots() []api.Twig {
	var roots []api.Twig
	for i, up := range s.up {
		if up >= 0 {
			continue
		}
		l := s.twigs(i)
		if len(l) > 1 {
			l = []api.Twig{{Kids: l}}
		}
		roots = append(roots, l...)
	}
	return roots
}

func (s *slow) answers(t api.Twig) bool { return t.Uid != 0 && s.cards[s.byUid(t.Uid)].Reply }

func (s *slow) subject(t api.Twig) string { return s.cards[s.first(t)].Subject }

// chief is the place of a subject's chief.
func (s *slow) chief(roots []api.Twig, subject string) int {
	chief := -1
	for i, r := range roots {
		if s.subject(r) != subject {
			continue
		}
		if chief < 0 {
			chief = i
			continue
		}
		c := roots[chief]
		if c.Uid != 0 && r.Uid == 0 || s.answers(c) && c.Uid != 0 && r.Uid != 0 && !s.answers(r) {
			chief = i
		}
	}
	return chief
}

// gather brings one subject's roots together; each subject's go to their own chief alone, so the subjects may be taken one by one.
func (s *slow) gather(roots []api.Twig, subject string) []api.Twig {
	chief := s.chief(roots, subject)
	kept := make([]int, 0, len(roots))
	for i := range roots {
		if s.subject(roots[i]) != subject || i == chief {
			kept = append(kept, i)
			continue
		}
		c, it := roots[chief], roots[i]
		switch {
		case c.Uid == 0 && it.Uid == 0:
			c.Kids = slices.Concat(c.Kids, it.Kids)
		case c.Uid == 0 && it.Uid != 0:
			c.Kids = slices.Concat(c.Kids, []api.Twig{it})
		case s.answers(it) && !s.answers(c):
			c.Kids = slices.Concat(c.Kids, []api.Twig{it})
		default:
			c = api.Twig{Kids: []api.Twig{c, it}}
		}
		roots[chief] = c
	}
	var left []api.Twig
	for _, i := range kept {
		left = append(left, roots[i])
	}
	return left
}

func slowByReferences(cards []api.Card) []api.Twig {
	s := slow{cards: slowTake(cards)}
	s.hangAll()
	roots := s.roots()
	s.order(roots)
	var subjects []string
	for _, c := range s.cards {
		if c.Subject != "" && !slices.Contains(subjects, c.Subject) {
			subjects = append(subjects, c.Subject)
		}
	}
	for _, subject := range subjects {
		roots = s.gather(roots, subject)
	}
	s.order(roots)
	return roots
}
