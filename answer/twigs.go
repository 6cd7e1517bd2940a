package answer

import "postbag/api"

// twigs writes those that lie so deep.
func (p *page) twigs(twigs []api.Twig, deep int) {
	for _, t := range twigs {
		p.add("(")
		p.thread(t, deep)
		p.add(")")
	}
}

func (p *page) thread(t api.Twig, deep int) {
	must(deep <= api.MaxMails)
	if t.Uid == 0 {
		must(len(t.Kids) > 1)
	} else {
		p.number(t.Uid, 1)
		if len(t.Kids) > 0 {
			p.add(" ")
		}
	}
	if len(t.Kids) != 1 {
		p.twigs(t.Kids, deep+1)
		return
	}
	must(t.Kids[0].Uid != 0)
	p.thread(t.Kids[0], deep+1)
}

func (c *cursor) twigs(deep int) []api.Twig {
	var twigs []api.Twig
	for c.passes("(") {
		twigs = append(twigs, c.thread(deep))
		c.pass(")")
	}
	return twigs
}

func (c *cursor) thread(deep int) api.Twig {
	must(deep <= api.MaxMails)
	var t api.Twig
	if !c.isAt("(") {
		t.Uid = c.number()
		if !c.passes(" ") {
			return t
		}
	}
	if c.isAt("(") {
		t.Kids = c.twigs(deep + 1)
	} else {
		t.Kids = []api.Twig{c.thread(deep + 1)}
	}
	return t
}
