package answer

import (
	"postbag/api"
	"postbag/lex"
)

// The fields of an answer, a bit each, in the order in which fieldsOf goes through them.
const (
	ofTag = 1 << iota
	ofOutcome
	ofCode
	ofArgs
	ofText
	ofNum
	ofName
	ofNums
	ofFlags
	ofData
	ofTwigs
	ofSet
	ofPairs
	ofUid
	ofModseq
)

// fieldsOf tells which fields are not zero.
func fieldsOf(a *api.Answer) int {
	fields := 0
	for i, is := range [...]bool{
		a.Tag != "", a.Outcome != 0, a.Code != 0, len(a.Args) > 0, a.Text != "", a.Num != 0, a.Name != "",
		len(a.Nums) > 0, len(a.Flags) > 0, len(a.Data) > 0, len(a.Twigs) > 0, len(a.Set) > 0, len(a.Pairs) > 0,
		a.Uid, a.Modseq != 0,
	} {
		if is {
			fields |= 1 << i
		}
	}
	return fields
}

// kind is how answers of one kind are written and read.
type kind struct {
	title  string // behind the star, and the number where there is one; a kind without a title has neither
	fields int    // those that it uses
	least  int    // of its number
	write  func(*page, *api.Answer)
	read   func(*cursor, *api.Answer)
}

func kinds() [api.AnswerBad]kind {
	return [...]kind{
		api.AnswerState:      {"", ofTag | ofOutcome | ofCode | ofArgs | ofText, 0, writeState, readState},
		api.AnswerContinue:   {"", ofText, 0, writeContinue, readContinue},
		api.AnswerCapability: {"CAPABILITY", ofFlags, 0, writeCapability, readAtoms},
		api.AnswerEnabled:    {"ENABLED", ofFlags, 0, writeAtoms, readAtoms},
		api.AnswerFlags:      {"FLAGS", ofFlags, 0, writeFlags, readFlags},
		api.AnswerList:       {"LIST", ofFlags | ofName, 0, writeList, readList},
		api.AnswerLsub:       {"LSUB", ofFlags | ofName, 0, writeList, readList},
		api.AnswerSearch:     {"SEARCH", ofNums | ofModseq, 0, writeNums, readNums},
		api.AnswerSort:       {"SORT", ofNums | ofModseq, 0, writeNums, readNums},
		api.AnswerThread:     {"THREAD", ofTwigs, 0, writeThread, readThread},
		api.AnswerStatus:     {"STATUS", ofName | ofPairs, 0, writeStatus, readStatus},
		api.AnswerExists:     {"EXISTS", ofNum, 0, writeNothing, readNothing},
		api.AnswerRecent:     {"RECENT", ofNum, 0, writeNothing, readNothing},
		api.AnswerExpunge:    {"EXPUNGE", ofNum, 1, writeNothing, readNothing},
		api.AnswerFetch:      {"FETCH", ofNum | ofData, 1, writeFetch, readFetch},
		api.AnswerEsearch:    {"ESEARCH", ofTag | ofUid | ofPairs | ofSet | ofModseq, 0, writeEsearch, readEsearch},
		api.AnswerNamespace:  {"NAMESPACE", 0, 0, writeNamespace, readNamespace},
	}
}

func outcomes() [5]string {
	return [...]string{api.OutOk: "OK", api.OutNo: "NO", api.OutBad: "BAD", api.OutBye: "BYE"}
}

const untagged = "*"

func writeState(p *page, a *api.Answer) {
	must(0 < a.Outcome && a.Outcome < len(outcomes()))
	tag := untagged
	if a.Tag != "" {
		must(lex.Is(lex.Tag, a.Tag) && a.Outcome != api.OutBye)
		tag = a.Tag
	}
	p.add(tag + " " + outcomes()[a.Outcome] + " ")
	p.code(a)
	p.human(a.Text)
}

func readState(c *cursor, a *api.Answer) {
	if !c.passes(untagged) {
		a.Tag = c.word()
	}
	c.pass(" ")
	name := c.word()
	for outcome, one := range outcomes() {
		if name == one {
			a.Outcome = outcome
		}
	}
	c.pass(" ")
	c.code(a)
	a.Text = c.all()
}

const goingOn = "+ "

func writeContinue(p *page, a *api.Answer) {
	p.add(goingOn)
	p.human(a.Text)
}

func readContinue(c *cursor, a *api.Answer) {
	c.pass(goingOn)
	a.Text = c.all()
}

func writeCapability(p *page, a *api.Answer) {
	must(len(a.Flags) > 0)
	writeAtoms(p, a)
}

func writeAtoms(p *page, a *api.Answer) { ahead(p, a.Flags, p.atom) }

func readAtoms(c *cursor, a *api.Answer) {
	for c.passes(" ") {
		a.Flags = append(a.Flags, c.word())
	}
}

func writeFlags(p *page, a *api.Answer) {
	p.add(" ")
	bracketed(p, a.Flags, p.sign)
}

func readFlags(c *cursor, a *api.Answer) {
	c.pass(" ")
	a.Flags = inBrackets(c, c.word)
}

const delimiter = ` "/" `

func writeList(p *page, a *api.Answer) {
	writeFlags(p, a)
	p.add(delimiter)
	p.name(a.Name)
}

func readList(c *cursor, a *api.Answer) {
	readFlags(c, a)
	c.pass(delimiter)
	a.Name = c.name()
}

const numsModseq = " (MODSEQ "

func writeNums(p *page, a *api.Answer) {
	ahead(p, a.Nums, func(n int) { p.number(n, 1) })
	if a.Modseq != 0 {
		p.add(numsModseq)
		p.number(a.Modseq, 1)
		p.add(")")
	}
}

func readNums(c *cursor, a *api.Answer) {
	for !c.isOver() {
		if c.passes(numsModseq) {
			a.Modseq = c.number()
			c.pass(")")
			return
		}
		c.pass(" ")
		a.Nums = append(a.Nums, c.number())
	}
}

func writeThread(p *page, a *api.Answer) {
	if len(a.Twigs) > 0 {
		p.add(" ")
		p.twigs(a.Twigs, 1)
	}
}

func readThread(c *cursor, a *api.Answer) {
	if c.passes(" ") {
		a.Twigs = c.twigs(1)
	}
}

func writeStatus(p *page, a *api.Answer) {
	must(arePairs(a.Pairs))
	p.add(" ")
	p.name(a.Name)
	p.add(" ")
	bracketed(p, a.Pairs, p.whole)
}

func readStatus(c *cursor, a *api.Answer) {
	c.pass(" ")
	a.Name = c.name()
	c.pass(" ")
	a.Pairs = inBrackets(c, c.whole)
}

func writeNothing(*page, *api.Answer) {}

func readNothing(*cursor, *api.Answer) {}

func writeFetch(p *page, a *api.Answer) {
	must(len(a.Data) > 0)
	p.add(" ")
	bracketed(p, a.Data, p.datum)
}

func readFetch(c *cursor, a *api.Answer) {
	c.pass(" ")
	a.Data = inBrackets(c, c.datum)
}

const (
	esearchTag    = " (TAG "
	esearchUid    = "UID"
	esearchAll    = "ALL"
	esearchModseq = "MODSEQ"
)

func writeEsearch(p *page, a *api.Answer) {
	must(lex.Is(lex.Tag, a.Tag) && arePairs(a.Pairs))
	p.add(esearchTag)
	p.text(a.Tag, lex.String)
	p.add(")")
	if a.Uid {
		p.add(" " + esearchUid)
	}
	ahead(p, a.Pairs, func(v api.Value) {
		must(v.Text != esearchUid && v.Text != esearchAll && v.Text != esearchModseq)
		p.whole(v)
	})
	if len(a.Set) > 0 {
		p.add(" " + esearchAll + " " + setText(a.Set))
	}
	if a.Modseq != 0 {
		p.add(" " + esearchModseq + " ")
		p.number(a.Modseq, 1)
	}
}

// readEsearch takes the parts in any order: the one in which they are written is asked when all is written again.
func readEsearch(c *cursor, a *api.Answer) {
	c.pass(esearchTag)
	a.Tag = c.text()
	c.pass(")")
	for c.passes(" ") {
		name := c.word()
		if name == esearchUid {
			a.Uid = true
			continue
		}
		c.pass(" ")
		switch name {
		case esearchAll:
			a.Set = c.set()
		case esearchModseq:
			a.Modseq = c.number()
		default:
			a.Pairs = append(a.Pairs, atomOf(name), numberOf(c.number()))
		}
	}
}

const namespaces = ` (("" "/")) NIL NIL`

func writeNamespace(p *page, _ *api.Answer) { p.add(namespaces) }

func readNamespace(c *cursor, _ *api.Answer) { c.pass(namespaces) }
