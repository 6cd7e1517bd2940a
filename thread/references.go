package thread

import (
	"cmp"
	"slices"

	"postbag/api"
)

// node is a message, or one that there is not and that messages refer to.
type node struct {
	card  *api.Card // nil: no message
	date  int       // how many messages are earlier
	up    *node     // what it hangs below
	joint joint     // the same once more
	kids  []*node   // of a twig: what stands below it there
}

// hang hangs n, which hangs below none, below another one; but not below what hangs below n, or is n.
func (n *node) hang(other *node) {
	if other.joint.top() == &n.joint {
		return
	}
	n.up = other
	n.joint.tie(&other.joint)
}

func (n *node) takeOff() {
	if n.up == nil {
		return
	}
	n.up = nil
	n.joint.loosen()
}

// above is the message that n's twig stands below, or the root that is no message, or nil. Those between, which give their places away, then hang right below it, so that nobody goes that way twice.
func (n *node) above() *node {
	top := n.up
	for top != nil && top.card == nil && top.up != nil {
		top = top.up
	}
	for p := n.up; p != top; {
		next := p.up
		p.up = top
		p = next
	}
	return top
}

// first is the message whose date and subject are the twig's.
func (n *node) first() *node {
	if n.card == nil {
		return n.kids[0]
	}
	return n
}

func (n *node) subject() string { return n.first().card.Subject }

func (n *node) answers() bool { return n.card != nil && n.card.Reply }

// givesUp tells whether a chief gives up in favour of another root of its subject.
func (n *node) givesUp(other *node) bool {
	if other.card == nil {
		return n.card != nil
	}
	return n.answers() && !other.answers()
}

// share turns a chief into a twig that is no message, in its place, with what it was and another root below it.
func (n *node) share(other *node) {
	was := &node{card: n.card, date: n.date, kids: n.kids}
	n.card, n.kids = nil, []*node{was, other}
}

// forest has a node for each card, as they are taken, and finds those of ids.
type forest struct {
	nodes []node
	ids   map[string]*node
}

// plant makes the nodes of cards; the empty id gets one too, which nobody asks for.
func plant(taken []api.Card) forest {
	f := forest{make([]node, len(taken)), make(map[string]*node)}
	for i := range taken {
		n := &f.nodes[i]
		n.card = &taken[i]
		if _, had := f.ids[n.card.Id]; !had {
			f.ids[n.card.Id] = n
		}
	}
	for date, at := range byDate(taken) {
		f.nodes[at].date = date
	}
	return f
}

// of is the node of an id: of one that no card has it is no message.
func (f forest) of(id string) *node {
	n, had := f.ids[id]
	if !had {
		n = &node{}
		f.ids[id] = n
	}
	return n
}

func (f forest) hang() {
	for i := range f.nodes {
		n := &f.nodes[i]
		var last *node
		for _, id := range n.card.Refs {
			if id == "" {
				continue
			}
			next := f.of(id)
			if last != nil && next.up == nil {
				next.hang(last)
			}
			last = next
		}
		n.takeOff()
		if last != nil {
			n.hang(last)
		}
	}
}

// roots makes twigs of the nodes, in no order.
func (f forest) roots() []*node {
	var roots []*node
	for i := range f.nodes {
		n := &f.nodes[i]
		top := n.above()
		if top == nil {
			roots = append(roots, n)
			continue
		}
		if top.card == nil && len(top.kids) == 0 {
			roots = append(roots, top)
		}
		top.kids = append(top.kids, n)
	}
	for i, r := range roots {
		if r.card == nil && len(r.kids) == 1 {
			roots[i] = r.kids[0]
		}
	}
	return roots
}

// order puts twigs in order, the lower ones first, since the date of one that is no message is found below it. A long row of single ones is gone down by a loop, so that it takes no deep calls.
func order(twigs []*node) {
	for len(twigs) == 1 {
		twigs = twigs[0].kids
	}
	for _, n := range twigs {
		order(n.kids)
	}
	slices.SortFunc(twigs, func(a, b *node) int { return cmp.Compare(a.first().date, b.first().date) })
}

// chiefsOf finds the chief of each subject.
func chiefsOf(roots []*node) map[string]*node {
	chiefs := make(map[string]*node)
	for _, r := range roots {
		subject := r.subject()
		if chief, had := chiefs[subject]; !had || chief.givesUp(r) {
			chiefs[subject] = r
		}
	}
	return chiefs
}

// gather brings the roots of one subject together, and tells those that stay.
func gather(roots []*node) []*node {
	chiefs := chiefsOf(roots)
	var stay []*node
roots:
	for _, r := range roots {
		subject := r.subject()
		chief := chiefs[subject]
		switch {
		case subject == "" || r == chief:
			stay = append(stay, r)
			continue roots
		case chief.card == nil && r.card == nil:
			chief.kids = append(chief.kids, r.kids...)
		case chief.card == nil || r.answers() && !chief.answers():
			chief.kids = append(chief.kids, r)
		default:
			chief.share(r)
		}
	}
	return stay
}

// twigsOf tells twigs as they are answered; a long row of single ones by a loop, as in order.
func twigsOf(nodes []*node) []api.Twig {
	if len(nodes) == 0 {
		return nil
	}
	twigs := make([]api.Twig, len(nodes))
	for i, n := range nodes {
		t := &twigs[i]
		for t.Uid = n.uid(); len(n.kids) == 1; t.Uid = n.uid() {
			n = n.kids[0]
			t.Kids = make([]api.Twig, 1)
			t = &t.Kids[0]
		}
		t.Kids = twigsOf(n.kids)
	}
	return twigs
}

func (n *node) uid() int {
	if n.card == nil {
		return 0
	}
	return n.card.Uid
}

// ByReferences hangs cards together by the ids that they refer to.
func ByReferences(cards []api.Card) []api.Twig {
	f := plant(take(cards))
	f.hang()
	roots := f.roots()
	order(roots)
	roots = gather(roots)
	order(roots)
	return twigsOf(roots)
}
