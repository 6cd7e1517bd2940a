package command

import (
	"postbag/api"
	"postbag/lex"
	"postbag/moment"
	"postbag/octet"
	"postbag/search"
	"postbag/span"
	"postbag/thread"
)

func text(field func(*api.Command) *string) argument {
	return argument{
		read:  func(r *row, c *api.Command) { *field(c) = r.text(lex.Astring) },
		print: func(p *page, c *api.Command) { p.text(*field(c), lex.Put) },
	}
}

func userField(c *api.Command) *string { return &c.User }

func passField(c *api.Command) *string { return &c.Pass }

func nameField(c *api.Command) *string { return &c.Name }

func toField(c *api.Command) *string { return &c.To }

func refField(c *api.Command) *string { return &c.Ref }

func readPattern(r *row, c *api.Command) { c.Pattern = r.text(lex.Pattern) }

func printPattern(p *page, c *api.Command) {
	if lex.Is(lex.Pattern, c.Pattern) {
		p.word(c.Pattern)
		return
	}
	p.text(c.Pattern, lex.String)
}

func readCondstore(r *row, c *api.Command) {
	if r.isOver() {
		return
	}
	inside := r.list()
	inside.name(condstore)
	inside.end()
	c.Condstore = true
}

func printCondstore(p *page, c *api.Command) {
	if c.Condstore {
		p.list(condstore)
	}
}

func readStatus(r *row, c *api.Command) {
	c.Status = r.list().choices(statusNames())
	if len(c.Status) == 0 {
		giveUp()
	}
}

func printStatus(p *page, c *api.Command) { p.choices(statusNames(), c.Status) }

func readReturns(r *row, c *api.Command) {
	if r.isAtName(returning) {
		r.take()
		c.Returning, c.Returns = true, r.list().choices(returnNames())
	}
}

func printReturns(p *page, c *api.Command) {
	if c.Returning {
		p.word(returning)
		p.choices(returnNames(), c.Returns)
	}
}

func readAnyCharset(r *row, c *api.Command) {
	if r.isAtName(charset) {
		r.take()
		readCharset(r, c)
	}
}

func printAnyCharset(p *page, c *api.Command) {
	if c.Charset.Is {
		p.word(charset)
		printCharset(p, c)
	}
}

func readCharset(r *row, c *api.Command) { c.Charset = api.Text{Is: true, S: r.text(lex.Astring)} }

func printCharset(p *page, c *api.Command) { p.text(c.Charset.S, lex.Put) }

// readKeys leaves nothing: keys go up to the line's end.
func readKeys(r *row, c *api.Command) {
	key, e := search.Read(r.rest, 0)
	must(e)
	c.Key, r.rest = key, nil
}

func printKeys(p *page, c *api.Command) {
	words, e := search.Print(c.Key)
	must(e)
	p.words(words)
}

func readBy(r *row, c *api.Command) {
	by, e := thread.ReadBy(r.take())
	must(e)
	c.By = by
}

func printBy(p *page, c *api.Command) {
	p.open()
	for _, by := range c.By {
		if by.Reverse {
			p.word(reverse)
		}
		p.word(nameOf(byNames(), by.Kind))
	}
	p.close()
}

func readAlgorithm(r *row, c *api.Command) { c.Algorithm = numberOf(algorithmNames(), r.atom()) }

func printAlgorithm(p *page, c *api.Command) { p.word(nameOf(algorithmNames(), c.Algorithm)) }

func readSet(r *row, c *api.Command) {
	set, e := span.Parse(r.atom())
	must(e)
	c.Set = set
}

func printSet(p *page, c *api.Command) {
	set, e := span.Print(c.Set)
	must(e)
	p.word(set)
}

func readChanged(r *row, c *api.Command) {
	if !r.isOver() {
		c.Changed = r.since(changed)
	}
}

func printChanged(p *page, c *api.Command) { p.since(changed, c.Changed) }

func readUnchanged(r *row, c *api.Command) {
	if r.isAt(api.WordList) {
		c.Unchanged = r.since(unchanged)
	}
}

func printUnchanged(p *page, c *api.Command) { p.since(unchanged, c.Unchanged) }

func readMode(r *row, c *api.Command) {
	text := r.atom()
	for _, mode := range [...]int{0, 1, -1} {
		for _, isSilent := range [...]bool{false, true} {
			if octet.Same(text, modeName(mode, isSilent)) {
				c.Mode, c.Silent = mode, isSilent
				return
			}
		}
	}
	giveUp()
}

func printMode(p *page, c *api.Command) { p.word(modeName(c.Mode, c.Silent)) }

func modeName(mode int, isSilent bool) string {
	name := flags
	switch mode {
	case 1:
		name = "+" + name
	case -1:
		name = "-" + name
	}
	if isSilent {
		name += silent
	}
	return name
}

func readFlags(r *row, c *api.Command) {
	switch {
	case r.isAt(api.WordList):
		c.Flags = r.list().flags()
	case r.isOver(): // without brackets there is one flag at least
		giveUp()
	default:
		c.Flags = r.flags()
	}
}

func printFlags(p *page, c *api.Command) { p.list(c.Flags...) }

func readFirstFlags(r *row, c *api.Command) {
	if r.isAt(api.WordList) {
		c.Flags = r.list().flags()
	}
}

func printFirstFlags(p *page, c *api.Command) {
	if len(c.Flags) > 0 {
		p.list(c.Flags...)
	}
}

func readDate(r *row, c *api.Command) {
	if r.isAt(api.WordQuoted) {
		date, e := moment.ReadInternal(r.take().Text)
		must(e)
		c.Dated, c.Date = true, date
	}
}

func printDate(p *page, c *api.Command) {
	if c.Dated {
		date, e := moment.PrintInternal(c.Date)
		must(e)
		p.word(lex.String(date))
	}
}

func readBody(r *row, c *api.Command) { c.Body = r.kind(api.WordLiteral).Text }

func printBody(p *page, c *api.Command) { p.literal(c.Body) }

func readNames(r *row, c *api.Command) { c.Names = r.atoms() }

func printNames(p *page, c *api.Command) {
	for _, name := range c.Names {
		p.word(name)
	}
}
