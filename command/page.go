package command

import (
	"strconv"
	"strings"

	"postbag/api"
	"postbag/lex"
)

const lineEnd = "\r\n"

// page is what is written of a command; where there is no form of it, it gives up by a panic, which Print catches.
type page struct {
	line     []byte // all but the literals and the line ends
	literals []string
	form     []byte
	isTight  bool // the next word is the first one behind a bracket
}

func (p *page) command(c *api.Command) {
	p.word(c.Tag)
	p.word(titleOf(c))
	for _, arg := range argumentsOf(c) {
		if arg.print != nil {
			arg.print(p, c)
		}
	}
	p.add(lineEnd)
}

// add gives up as soon as there is too much, whatever else the command has.
func (p *page) add(s string) {
	p.form = append(p.form, s...)
	if len(p.form) > api.MaxCommand {
		giveUp()
	}
}

func (p *page) hasLongLine() bool { return len(p.line)+len(lineEnd)*(len(p.literals)+1) > api.MaxLine }

func (p *page) glue(s string) {
	p.line = append(p.line, s...)
	p.add(s)
}

func (p *page) word(s string) {
	if !p.isTight && len(p.line) > 0 {
		p.glue(" ")
	}
	p.isTight = false
	p.glue(s)
}

func (p *page) open() {
	p.word("(")
	p.isTight = true
}

func (p *page) close() {
	p.isTight = false
	p.glue(")")
}

func (p *page) list(words ...string) {
	p.open()
	for _, word := range words {
		p.word(word)
	}
	p.close()
}

func (p *page) choices(names []string, numbers []int) {
	p.open()
	for _, n := range numbers {
		p.word(nameOf(names, n))
	}
	p.close()
}

func (p *page) since(name string, number api.Text) {
	if number.Is {
		p.list(name, number.S)
	}
}

// text writes one as a writer of chapter 3 sends it; but literals come at once here.
func (p *page) text(s string, write func(string) string) {
	sent := write(s)
	if strings.HasPrefix(sent, "{") {
		p.literal(s)
		return
	}
	p.word(sent)
}

func (p *page) literal(s string) {
	p.word("{" + strconv.Itoa(len(s)) + "+}")
	p.literals = append(p.literals, s)
	p.add(lineEnd)
	p.add(s)
}

func (p *page) words(words []api.Word) {
	for _, w := range words {
		switch w.Kind {
		case api.WordAtom:
			p.word(w.Text)
		case api.WordList:
			p.open()
			p.words(w.Kids)
			p.close()
		default:
			p.text(w.Text, lex.String)
		}
	}
}
