package command

import (
	"strconv"
	"strings"

	"postbag/api"
	"postbag/lex"
	"postbag/octet"
)

func readItems(r *row, c *api.Command) {
	c.Items = r.shorthand()
	switch {
	case len(c.Items) > 0:
	case r.isAt(api.WordList):
		c.Items = r.list().items()
	default:
		c.Items = []api.Item{r.item()}
	}
}

func printItems(p *page, c *api.Command) {
	p.open()
	for i := range c.Items {
		p.item(&c.Items[i])
	}
	p.close()
}

// shorthand takes a name that stands for items, and is these, or nothing: each name stands for the first few of one row.
func (r *row) shorthand() []api.Item {
	kinds := [...]int{api.ItemFlags, api.ItemDate, api.ItemSize, api.ItemEnvelope, api.ItemBody}
	var items []api.Item
	for n, name := range [...]string{3: "FAST", 4: "ALL", 5: "FULL"} {
		if !r.isAtName(name) {
			continue
		}
		r.take()
		for _, kind := range kinds[:n] {
			items = append(items, api.Item{Kind: kind})
		}
		break
	}
	return items
}

// items takes all that is left, one or more.
func (r *row) items() []api.Item {
	items := []api.Item{r.item()}
	for !r.isOver() {
		items = append(items, r.item())
	}
	if len(items) > api.MaxItems {
		giveUp()
	}
	return items
}

func (r *row) item() api.Item {
	name := r.atom()
	isPeek := octet.Same(name, body+peek)
	if !isPeek && !(octet.Same(name, body) && r.isGlued(api.WordBracket)) {
		return api.Item{Kind: numberOf(itemNames(), name)}
	}
	item := api.Item{Kind: api.ItemSection, Peek: isPeek, Section: r.section()}
	if r.isGlued(api.WordAtom) {
		item.Partial = true
		item.From, item.N = partOf(r.pass().Text)
	}
	return item
}

func (p *page) item(item *api.Item) {
	if item.Kind != api.ItemSection {
		p.word(nameOf(itemNames(), item.Kind))
		return
	}
	p.word(body)
	if item.Peek {
		p.glue(peek)
	}
	p.section(&item.Section)
	if item.Partial {
		p.glue("<" + strconv.Itoa(item.From) + "." + strconv.Itoa(item.N) + ">")
	}
}

// partOf reads which bytes are meant: from where, and how many.
func partOf(text string) (int, int) {
	text, isOpened := strings.CutPrefix(text, "<")
	text, isClosed := strings.CutSuffix(text, ">")
	left, right, isParted := strings.Cut(text, ".")
	from, wrongFrom := lex.Number(left, api.MaxNumber)
	n, wrongN := lex.Number(right, api.MaxNumber)
	must(wrongFrom)
	must(wrongN)
	if !isOpened || !isClosed || !isParted || n == 0 {
		giveUp()
	}
	return from, n
}

// section takes the bracket that is glued to what was taken last.
func (r *row) section() api.Section {
	if !r.isGlued(api.WordBracket) {
		giveUp()
	}
	inside := row{rest: r.pass().Kids}
	if inside.isOver() {
		return api.Section{}
	}
	section := sectionOf(inside.atom())
	if hasNames(section.Kind) {
		section.Names = inside.list().atoms()
	}
	inside.end()
	return section
}

func (p *page) section(s *api.Section) {
	p.glue("[" + s.Place)
	if s.Kind != api.SectionWhole {
		if s.Place != "" {
			p.glue(".")
		}
		p.glue(nameOf(sectionNames(), s.Kind))
	}
	if hasNames(s.Kind) {
		p.list(s.Names...)
	}
	p.glue("]")
}

func hasNames(kind int) bool { return kind == api.SectionFields || kind == api.SectionOthers }

// sectionOf reads the atom of a bracket: no name begins with what a part is made of.
func sectionOf(text string) api.Section {
	name := strings.TrimLeft(text, "0123456789.")
	place := text[:len(text)-len(name)]
	if name == "" {
		return api.Section{Place: placeOf(place)}
	}
	kind := numberOf(sectionNames(), name)
	if place == "" && kind != api.SectionMime {
		return api.Section{Kind: kind}
	}
	place, isParted := strings.CutSuffix(place, ".")
	if !isParted {
		giveUp()
	}
	return api.Section{Place: placeOf(place), Kind: kind}
}

// placeOf is a text that is a part's place, as it is.
func placeOf(text string) string {
	for number := range strings.SplitSeq(text, ".") {
		n, e := lex.Number(number, api.MaxNumber)
		must(e)
		if n == 0 {
			giveUp()
		}
	}
	return text
}
