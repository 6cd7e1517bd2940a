package answer

import (
	"postbag/api"
	"postbag/lex"
	"postbag/span"
)

const (
	missing = "NIL"
	flags   = "FLAGS"

	mostLists = 2 * api.MaxNest // that lie one in the other
)

func atomOf(s string) api.Value { return api.Value{Kind: api.ValueAtom, Text: s} }

func numberOf(n int) api.Value { return api.Value{Kind: api.ValueNumber, Num: n} }

// isOnly tells whether a value is of a kind and has nothing that this does not name.
func isOnly(kind int, v api.Value) bool {
	hasText := kind == api.ValueAtom || kind == api.ValueString
	return v.Kind == kind && (v.Num == 0 || kind == api.ValueNumber) && (v.Text == "" || hasText) &&
		(len(v.Kids) == 0 || kind == api.ValueList)
}

// arePairs tells whether values are names and numbers in turn.
func arePairs(values []api.Value) bool {
	for i, v := range values {
		if v.Kind != [...]int{api.ValueAtom, api.ValueNumber}[i%2] {
			return false
		}
	}
	return len(values)%2 == 0
}

// whole writes a value that lies in no list, and reads one.
func (p *page) whole(v api.Value) { p.value(v, 0) }

func (c *cursor) whole() api.Value { return c.value(0) }

// value writes one that lies in so many lists.
func (p *page) value(v api.Value, lists int) {
	must(isOnly(v.Kind, v))
	switch v.Kind {
	case api.ValueNil:
		p.add(missing)
	case api.ValueNumber:
		p.number(v.Num, 0)
	case api.ValueAtom:
		p.atom(v.Text)
	case api.ValueString:
		p.text(v.Text, lex.String)
	case api.ValueList:
		must(lists < mostLists)
		bracketed(p, v.Kids, func(kid api.Value) { p.value(kid, lists+1) })
	default:
		giveUp()
	}
}

func (c *cursor) value(lists int) api.Value {
	switch {
	case c.isAtText():
		return api.Value{Kind: api.ValueString, Text: c.text()}
	case c.isAt("("):
		must(lists < mostLists)
		kids := inBrackets(c, func() api.Value { return c.value(lists + 1) })
		return api.Value{Kind: api.ValueList, Kids: kids}
	}
	word := c.word()
	if word == missing {
		return api.Value{}
	}
	if n, e := lex.Number(word, api.MaxNumber); e == api.OK {
		return numberOf(n)
	}
	return atomOf(word)
}

// wordValue and wordsValue take words as atoms, whatever they look like.
func (c *cursor) wordValue() api.Value { return atomOf(c.word()) }

func (c *cursor) wordsValue() api.Value {
	return api.Value{Kind: api.ValueList, Kids: inBrackets(c, c.wordValue)}
}

func (c *cursor) numberValue() api.Value { return numberOf(c.number()) }

func (p *page) numberValue(v api.Value) {
	must(v.Kind == api.ValueNumber)
	p.whole(v)
}

func (p *page) atomValue(v api.Value) {
	must(v.Kind == api.ValueAtom)
	p.whole(v)
}

func (p *page) signValue(v api.Value) {
	must(isOnly(api.ValueAtom, v))
	p.sign(v.Text)
}

func (p *page) atomsValue(v api.Value) {
	must(isOnly(api.ValueList, v))
	bracketed(p, v.Kids, p.atomValue)
}

func (p *page) signsValue(v api.Value) {
	must(isOnly(api.ValueList, v))
	bracketed(p, v.Kids, p.signValue)
}

func (p *page) setValue(v api.Value) {
	must(isOnly(api.ValueAtom, v))
	set, e := span.Parse(v.Text)
	must(e == api.OK && setText(set) == v.Text)
	p.add(v.Text)
}

func (p *page) datum(d api.Datum) {
	must(isDatumName(d.Name))
	p.add(d.Name + " ")
	if d.Name == flags {
		p.signsValue(d.Value)
		return
	}
	p.whole(d.Value)
}

func (c *cursor) datum() api.Datum {
	name := c.datumName()
	c.pass(" ")
	if name == flags {
		return api.Datum{Name: name, Value: c.wordsValue()}
	}
	return api.Datum{Name: name, Value: c.whole()}
}

// datumName may have blanks within its brackets.
func (c *cursor) datumName() string {
	name := c.until(" [")
	if c.isAt("[") {
		name += c.until("]") + c.until(" ")
	}
	return name
}
