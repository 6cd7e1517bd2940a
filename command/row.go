package command

import (
	"slices"

	"postbag/api"
	"postbag/event"
	"postbag/lex"
	"postbag/octet"
)

// row goes through words that stand side by side; where they are no command's it gives up by a panic, which Read catches.
type row struct {
	rest []api.Word
}

func giveUp() { panic("no command") }

func must(e api.Errno) {
	if e != api.OK {
		giveUp()
	}
}

func (r *row) command() api.Command {
	c := api.Command{Tag: r.atom()}
	name := r.atom()
	if octet.Same(name, uid) {
		c.Uid = true
		name = r.atom()
	}
	c.Verb = numberOf(verbNames(), name)
	for _, arg := range argumentsOf(&c) {
		if arg.read != nil {
			arg.read(r, &c)
		}
	}
	r.end()
	return c
}

func (r *row) isOver() bool { return len(r.rest) == 0 }

func (r *row) end() {
	if !r.isOver() {
		giveUp()
	}
}

func (r *row) isAt(kind int) bool { return !r.isOver() && r.rest[0].Kind == kind }

func (r *row) isAtName(name string) bool {
	return r.isAt(api.WordAtom) && octet.Same(r.rest[0].Text, name)
}

// isGlued tells whether a word of that kind stands right behind the one that was taken last.
func (r *row) isGlued(kind int) bool { return r.isAt(kind) && r.rest[0].Glued }

// pass takes a word that may be glued.
func (r *row) pass() api.Word {
	w := r.rest[0]
	r.rest = r.rest[1:]
	return w
}

func (r *row) take() api.Word {
	if r.isOver() || r.rest[0].Glued {
		giveUp()
	}
	return r.pass()
}

func (r *row) kind(kind int) api.Word {
	w := r.take()
	if w.Kind != kind {
		giveUp()
	}
	return w
}

func (r *row) list() *row { return &row{rest: r.kind(api.WordList).Kids} }

func (r *row) atom() string { return r.kind(api.WordAtom).Text }

func (r *row) class(class int) string {
	text := r.atom()
	if !lex.Is(class, text) {
		giveUp()
	}
	return text
}

func (r *row) name(name string) {
	if !octet.Same(r.atom(), name) {
		giveUp()
	}
}

// text takes one that may stand without quotes, if it is of a class.
func (r *row) text(class int) string {
	if r.isAt(api.WordQuoted) || r.isAt(api.WordLiteral) {
		return r.take().Text
	}
	return r.class(class)
}

// since takes a list of a name and a number, which is kept as it came.
func (r *row) since(name string) api.Text {
	inside := r.list()
	inside.name(name)
	number := inside.atom()
	_, e := lex.Number(number, api.MaxNumber)
	must(e)
	inside.end()
	return api.Text{Is: true, S: number}
}

// atoms takes all that is left, one or more.
func (r *row) atoms() []string {
	list := []string{r.class(lex.Atom)}
	for !r.isOver() {
		list = append(list, r.class(lex.Atom))
	}
	return list
}

// flags takes all that is left.
func (r *row) flags() []string {
	var list []string
	for !r.isOver() {
		list = append(list, r.class(lex.Flag))
	}
	_, e := event.Flags(list)
	must(e)
	return list
}

// choices takes all that is left as names, none of them twice.
func (r *row) choices(names []string) []int {
	var chosen []int
words:
	for !r.isOver() {
		text := r.atom()
		for n, name := range names {
			if octet.Same(text, name) && !slices.Contains(chosen, n) {
				chosen = append(chosen, n)
				continue words
			}
		}
		giveUp()
	}
	return chosen
}
