package answer

import (
	"slices"
	"strconv"
	"strings"

	"postbag/api"
	"postbag/lex"
	"postbag/span"
)

// page is what is written of an answer; where there is no line of it, it gives up by a panic, which Print catches.
type page struct {
	out strings.Builder
}

func (p *page) add(s string) { p.out.WriteString(s) }

func (p *page) answer(a *api.Answer) {
	must(0 < a.Kind && a.Kind < api.AnswerBad)
	k := kinds()[a.Kind]
	must(fieldsOf(a)&^k.fields == 0)
	if k.title != "" {
		p.head(k, a.Num)
	}
	k.write(p, a)
	p.add(lineEnd)
}

func (p *page) head(k kind, num int) {
	p.add(untagged + " ")
	if k.fields&ofNum != 0 {
		p.number(num, k.least)
		p.add(" ")
	}
	p.add(k.title)
}

func (p *page) number(n, least int) {
	must(least <= n && n <= api.MaxNumber)
	p.add(strconv.Itoa(n))
}

func (p *page) atom(s string) {
	must(isAtom(s))
	p.add(s)
}

func (p *page) sign(s string) {
	must(isSign(s))
	p.add(s)
}

func (p *page) human(s string) {
	must(isHuman(s))
	p.add(s)
}

// text writes one as a writer of chapter 3 sends it: of what that answers a literal alone begins with a brace.
func (p *page) text(s string, write func(string) string) {
	sent := write(s)
	must(len(s) <= api.MaxOutput || !strings.HasPrefix(sent, "{"))
	p.add(sent)
}

func (p *page) name(s string) { p.text(s, lex.Put) }

// setText is how a set is written.
func setText(set []api.Range) string {
	hasStar := slices.ContainsFunc(set, func(piece api.Range) bool { return piece.From == 0 || piece.To == 0 })
	text, e := span.Print(set)
	must(e == api.OK && !hasStar)
	return text
}

// bracketed writes a list with a blank between two.
func bracketed[T any](p *page, list []T, write func(T)) {
	p.add("(")
	for i, one := range list {
		if i > 0 {
			p.add(" ")
		}
		write(one)
	}
	p.add(")")
}

// ahead writes a list with a blank ahead of each.
func ahead[T any](p *page, list []T, write func(T)) {
	for _, one := range list {
		p.add(" ")
		write(one)
	}
}
