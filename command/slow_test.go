package command_test

import (
	"fmt"
	"regexp"
	"slices"
	"strconv"
	"strings"

	"postbag/api"
	"postbag/event"
	"postbag/lex"
	"postbag/moment"
	"postbag/search"
	"postbag/span"
	"postbag/thread"
)

// A Read and a Print of another make: a line is one text, which a pattern of its verb takes or not; a form is put together by a template.

const (
	atomForm    = `[!#$&'+-Z^-z|~]+`
	textForm    = `(?:"\d+"|\{\d+\}|` + atomForm + `)`
	patternForm = `(?:"\d+"|\{\d+\}|[!#$%&'*+-Z^-z|~]+)`
	setForm     = `[0-9:,*]+`
	flagForm    = `\\?` + atomForm
	flagsForm   = `\((?:` + flagForm + `(?: ` + flagForm + `)*)?\)`
	partForm    = `[1-9][0-9]*(?:\.[1-9][0-9]*)*`
	bracketForm = `\[(?:|` + partForm + `|(?:` + partForm + `\.)?(?:HEADER|TEXT)|` + partForm + `\.MIME|(?:` + partForm + `\.)?HEADER\.FIELDS(?:\.NOT)? \(` + atomForm + `(?: ` + atomForm + `)*\))\]`
	itemForm    = `(?:FLAGS|UID|INTERNALDATE|RFC822\.SIZE|ENVELOPE|BODYSTRUCTURE|RFC822\.HEADER|RFC822\.TEXT|RFC822|MODSEQ|BODY(?:\.PEEK)?` + bracketForm + `(?:<(?:0|[1-9][0-9]*)\.[1-9][0-9]*>)?|BODY)`
	itemsForm   = `(?:ALL|FAST|FULL|` + itemForm + `|\(` + itemForm + `(?: ` + itemForm + `)*\))`
)

var verbForms = func() map[int][]*regexp.Regexp {
	forms := map[int][]*regexp.Regexp{}
	add := func(form string, verbs ...int) {
		for _, verb := range verbs {
			forms[verb] = append(forms[verb], regexp.MustCompile(`(?i)^`+strings.Replace(form, "VERB", slowVerbs[verb], 1)+`$`))
		}
	}
	text := ` (?P<name>` + textForm + `)`
	set := ` (?P<set>` + setForm + `)`
	keys := ` (?P<keys>.+)`
	add(`VERB`, api.VerbCapability, api.VerbNoop, api.VerbLogout, api.VerbCheck, api.VerbClose, api.VerbUnselect, api.VerbExpunge, api.VerbIdle, api.VerbNamespace)
	add(`VERB (?P<user>`+textForm+`) (?P<pass>`+textForm+`)`, api.VerbLogin)
	add(`VERB`+text+`(?P<condstore> \(CONDSTORE\))?`, api.VerbSelect, api.VerbExamine)
	add(`VERB`+text, api.VerbCreate, api.VerbDelete, api.VerbSubscribe, api.VerbUnsubscribe)
	add(`VERB`+text+` (?P<to>`+textForm+`)`, api.VerbRename)
	add(`VERB (?P<ref>`+textForm+`) (?P<pattern>`+patternForm+`)`, api.VerbList, api.VerbLsub)
	status := `(?:MESSAGES|RECENT|UIDNEXT|UIDVALIDITY|UNSEEN|HIGHESTMODSEQ)`
	add(`VERB`+text+` \((?P<status>`+status+`(?: `+status+`)*)\)`, api.VerbStatus)
	add(`VERB`+text+`(?: (?P<flags>`+flagsForm+`))?(?: (?P<date>"\d+"))? (?P<body>\{\d+\})`, api.VerbAppend)
	option := `(?:MIN|MAX|ALL|COUNT)`
	add(`(?P<uid>UID )?VERB(?P<returning> RETURN \((?P<returns>(?:`+option+`(?: `+option+`)*)?)\))?(?: CHARSET (?P<charset>`+textForm+`))?`+keys, api.VerbSearch)
	add(`(?P<uid>UID )?VERB`+set+` (?P<items>`+itemsForm+`)(?: \(CHANGEDSINCE (?P<changed>\d+)\))?`, api.VerbFetch)
	add(`(?P<uid>UID )?VERB`+set+`(?: \(UNCHANGEDSINCE (?P<unchanged>\d+)\))? (?P<sign>[+-]?)FLAGS(?P<silent>\.SILENT)? (?P<flags>`+flagsForm+`|`+flagForm+`(?: `+flagForm+`)*)`, api.VerbStore)
	add(`(?P<uid>UID )?VERB`+set+text, api.VerbCopy, api.VerbMove)
	add(`(?P<uid>UID )?VERB (?P<by>\([A-Z ]+\)) (?P<charset>`+textForm+`)`+keys, api.VerbSort)
	add(`(?P<uid>UID )?VERB (?P<algorithm>ORDEREDSUBJECT|REFERENCES) (?P<charset>`+textForm+`)`+keys, api.VerbThread)
	add(`VERB (?P<names>`+atomForm+`(?: `+atomForm+`)*)`, api.VerbEnable)
	add(`(?P<uid>UID )VERB`+set, api.VerbExpunge)
	return forms
}()

var (
	slowVerbs = strings.Split("-,CAPABILITY,NOOP,LOGOUT,LOGIN,SELECT,EXAMINE,CREATE,DELETE,RENAME,SUBSCRIBE,UNSUBSCRIBE,LIST,LSUB,STATUS,APPEND,CHECK,CLOSE,UNSELECT,EXPUNGE,SEARCH,FETCH,STORE,COPY,MOVE,SORT,THREAD,IDLE,NAMESPACE,ENABLE", ",")
	slowItems = strings.Split("-,FLAGS,UID,INTERNALDATE,RFC822.SIZE,ENVELOPE,BODY,BODYSTRUCTURE,-,RFC822.HEADER,RFC822.TEXT,RFC822,MODSEQ", ",")
	slowKinds = strings.Split("-,HEADER,HEADER.FIELDS,HEADER.FIELDS.NOT,TEXT,MIME", ",")
	slowState = strings.Split("-,MESSAGES,RECENT,UIDNEXT,UIDVALIDITY,UNSEEN,HIGHESTMODSEQ", ",")
	slowAsked = strings.Split("-,MIN,MAX,ALL,COUNT", ",")
	slowOrder = strings.Split("-,ARRIVAL,CC,DATE,FROM,SIZE,SUBJECT,TO", ",")

	tagForm        = regexp.MustCompile(`^[!#$&',-Z^-z|~]{1,32}$`)
	escapeForm     = regexp.MustCompile(`\\(.)`)
	oneItemForm    = regexp.MustCompile(`(?i)` + itemForm)
	oneAtomForm    = regexp.MustCompile(`^` + atomForm + `$`)
	stringForm     = regexp.MustCompile(`"(?:[^"\\]|\\.)*"|\{\d+\+?\}`)
	onePatternForm = regexp.MustCompile(`^[!#$%&'*+-Z^-z|~]+$`)
	sectionForm    = regexp.MustCompile(`(?i)^BODY(\.PEEK)?\[(` + partForm + `)?\.?([A-Z.]*)(?: \((.*)\))?\](?:<(\d+)\.(\d+)>)?$`)
)

// slowRead reads a line with its strings taken out of it: in their places stand their numbers.
func slowRead(line string, literals []string) (api.Command, api.Errno) {
	words, e := lex.Scan(line, literals)
	if e == api.ErrLong {
		return api.Command{}, e
	}
	tag := strings.SplitN(line, " ", 2)[0]
	if !tagForm.MatchString(tag) {
		return api.Command{}, api.ErrTag
	}
	if e != api.OK || strings.Contains(strings.Join(literals, ""), "\x00") || len(words) < 2 {
		return api.Command{}, api.ErrCommand
	}
	var texts []string
	rest := stringForm.ReplaceAllStringFunc(line[len(tag)+1:], func(s string) string {
		number := strconv.Itoa(len(texts))
		if s[0] == '{' {
			texts, literals = append(texts, literals[0]), literals[1:]
			return "{" + number + "}"
		}
		texts = append(texts, escapeForm.ReplaceAllString(s[1:len(s)-1], "$1"))
		return `"` + number + `"`
	})
	for verb, forms := range verbForms {
		for _, form := range forms {
			if found := form.FindStringSubmatch(rest); found != nil {
				p := slowParts{words: words, texts: texts, good: true, is: map[string]bool{}, got: map[string]string{}}
				for i, name := range form.SubexpNames() {
					p.is[name], p.got[name] = found[i] != "", found[i]
				}
				if c := p.command(tag, verb); p.good {
					return c, api.OK
				}
			}
		}
	}
	return api.Command{}, api.ErrCommand
}

// slowParts is what a pattern took.
type slowParts struct {
	words []api.Word
	texts []string
	is    map[string]bool
	got   map[string]string
	good  bool
}

func (p *slowParts) need(good bool) { p.good = p.good && good }

func (p *slowParts) text(name string) string {
	s := p.got[name]
	if s == "" || s[0] != '"' && s[0] != '{' {
		p.need(!strings.EqualFold(s, "nil") || name == "pattern")
		return s
	}
	n, _ := strconv.Atoi(s[1 : len(s)-1])
	return p.texts[n]
}

func (p *slowParts) number(name string) api.Text {
	s := p.got[name]
	n, err := strconv.ParseUint(s, 10, 32)
	p.need(s == "" || err == nil && s == strconv.Itoa(int(n)))
	return api.Text{Is: s != "", S: s}
}

func (p *slowParts) places(name string, names []string) []int {
	var list []int
	for _, word := range strings.Fields(strings.ToUpper(p.got[name])) {
		n := slices.Index(names, word)
		p.need(!slices.Contains(list, n))
		list = append(list, n)
	}
	return list
}

func (p *slowParts) command(tag string, verb int) api.Command {
	c := api.Command{Tag: tag, Verb: verb, Uid: p.is["uid"], Condstore: p.is["condstore"], Silent: p.is["silent"], Returning: p.is["returning"]}
	c.Name, c.To, c.User, c.Pass, c.Ref, c.Pattern, c.Body = p.text("name"), p.text("to"), p.text("user"), p.text("pass"), p.text("ref"), p.text("pattern"), p.text("body")
	c.Changed, c.Unchanged = p.number("changed"), p.number("unchanged")
	c.Status, c.Returns = p.places("status", slowState), p.places("returns", slowAsked)
	c.Names = strings.Fields(p.got["names"])
	c.Mode = map[string]int{"+": 1, "-": -1}[p.got["sign"]]
	c.Algorithm = map[string]int{"ORDEREDSUBJECT": 1, "REFERENCES": 2}[strings.ToUpper(p.got["algorithm"])]
	if p.is["charset"] {
		c.Charset = api.Text{Is: true, S: p.text("charset")}
	}
	if p.is["date"] {
		date, e := moment.ReadInternal(p.text("date"))
		p.need(e == api.OK)
		c.Dated, c.Date = true, date
	}
	if p.is["set"] {
		set, e := span.Parse(p.got["set"])
		p.need(e == api.OK)
		c.Set = set
	}
	c.Flags = strings.Fields(strings.Trim(p.got["flags"], "()"))
	_, e := event.Flags(c.Flags)
	p.need(e == api.OK)
	p.searching(&c)
	if p.is["items"] {
		c.Items = p.items()
	}
	return c
}

func (p *slowParts) searching(c *api.Command) {
	if !p.is["keys"] {
		return
	}
	at := 2
	for name, n := range map[string]int{"uid": 1, "returning": 2, "by": 1, "algorithm": 1, "charset": 1} {
		if p.is[name] {
			at += n
		}
	}
	if p.is["charset"] && c.Verb == api.VerbSearch {
		at++
	}
	key, e := search.Read(p.words, at)
	p.need(e == api.OK)
	c.Key = key
	if p.is["by"] {
		words, _ := lex.Scan(p.got["by"], nil)
		p.need(len(words) == 1)
		if p.good {
			by, e := thread.ReadBy(words[0])
			p.need(e == api.OK)
			c.By = by
		}
	}
}

func (p *slowParts) items() []api.Item {
	text := p.got["items"]
	short := map[string]string{"FAST": "FLAGS INTERNALDATE RFC822.SIZE", "ALL": "FLAGS INTERNALDATE RFC822.SIZE ENVELOPE", "FULL": "FLAGS INTERNALDATE RFC822.SIZE ENVELOPE BODY"}
	if long, is := short[strings.ToUpper(text)]; is {
		text = long
	} else if text[0] == '(' {
		text = text[1 : len(text)-1]
	}
	var list []api.Item
	for _, one := range oneItemForm.FindAllString(text, -1) {
		found := sectionForm.FindStringSubmatch(one)
		if found == nil {
			list = append(list, api.Item{Kind: slices.Index(slowItems, strings.ToUpper(one))})
			continue
		}
		item := api.Item{Kind: api.ItemSection, Peek: found[1] != "", Partial: found[5] != ""}
		item.Section = api.Section{Place: found[2], Kind: max(0, slices.Index(slowKinds, strings.ToUpper(found[3]))), Names: strings.Fields(found[4])}
		numbers := strings.Split(found[2], ".")
		if item.Partial {
			numbers = append(numbers, found[5], found[6])
			item.From, _ = strconv.Atoi(found[5])
			item.N, _ = strconv.Atoi(found[6])
		}
		for _, number := range numbers {
			_, err := strconv.ParseUint(number, 10, 32)
			p.need(number == "" || err == nil)
		}
		list = append(list, item)
	}
	p.need(len(list) <= api.MaxItems)
	return list
}

// slowPrint puts a form together, and takes it, if slowRead does.
func slowPrint(c api.Command) (string, api.Errno) {
	f := slowForm{}
	f.command(c)
	if f.wrong || len(f.line)+2*len(f.literals)+2 > api.MaxLine || len(f.form)+2 > api.MaxCommand {
		return "", api.ErrCommand
	}
	again, e := slowRead(f.line, f.literals)
	if e != api.OK || shown(again) != shown(c) {
		return "", api.ErrCommand
	}
	return f.form + crlf, api.OK
}

type slowForm struct {
	line, form string
	literals   []string
	wrong      bool
}

func (f *slowForm) put(format string, args ...any) {
	s := fmt.Sprintf(format, args...)
	f.line += s
	f.form += s
}

func (f *slowForm) literal(s string) {
	f.put(" {%d+}", len(s))
	f.form += crlf + s
	f.literals = append(f.literals, s)
}

func (f *slowForm) quoted(s string) {
	if strings.IndexFunc(s, func(c rune) bool { return c == 0 || c == '\r' || c == '\n' || c > 127 }) >= 0 {
		f.literal(s)
		return
	}
	f.put(" \"%s\"", strings.NewReplacer(`"`, `\"`, `\`, `\\`).Replace(s))
}

func (f *slowForm) text(s string) {
	if oneAtomForm.MatchString(s) && !strings.EqualFold(s, "nil") {
		f.put(" %s", s)
		return
	}
	f.quoted(s)
}

func (f *slowForm) name(names []string, n int) string {
	if n < 1 || n >= len(names) {
		f.wrong = true
		return "?"
	}
	return names[n]
}

func (f *slowForm) places(names []string, numbers []int) string {
	var list []string
	for _, n := range numbers {
		list = append(list, f.name(names, n))
	}
	return "(" + strings.Join(list, " ") + ")"
}

func (f *slowForm) set(set []api.Range) {
	s, e := span.Print(set)
	f.wrong = f.wrong || e != api.OK
	f.put(" %s", s)
}

func (f *slowForm) command(c api.Command) {
	f.put("%s ", c.Tag)
	if c.Uid {
		f.put("UID ")
	}
	f.put("%s", f.name(slowVerbs, c.Verb))
	switch c.Verb {
	case api.VerbLogin:
		f.text(c.User)
		f.text(c.Pass)
	case api.VerbSelect, api.VerbExamine:
		f.text(c.Name)
		if c.Condstore {
			f.put(" (CONDSTORE)")
		}
	case api.VerbCreate, api.VerbDelete, api.VerbSubscribe, api.VerbUnsubscribe:
		f.text(c.Name)
	case api.VerbRename:
		f.text(c.Name)
		f.text(c.To)
	case api.VerbList, api.VerbLsub:
		f.text(c.Ref)
		if onePatternForm.MatchString(c.Pattern) {
			f.put(" %s", c.Pattern)
		} else {
			f.quoted(c.Pattern)
		}
	case api.VerbStatus:
		f.text(c.Name)
		f.put(" %s", f.places(slowState, c.Status))
	case api.VerbAppend:
		f.text(c.Name)
		if len(c.Flags) > 0 {
			f.put(" (%s)", strings.Join(c.Flags, " "))
		}
		if c.Dated {
			date, e := moment.PrintInternal(c.Date)
			f.wrong = f.wrong || e != api.OK
			f.put(" \"%s\"", date)
		}
		f.literal(c.Body)
	case api.VerbEnable:
		f.put(" %s", strings.Join(c.Names, " "))
	default:
		f.others(c)
	}
}

func (f *slowForm) others(c api.Command) {
	switch c.Verb {
	case api.VerbSearch:
		if c.Returning {
			f.put(" RETURN %s", f.places(slowAsked, c.Returns))
		}
		if c.Charset.Is {
			f.put(" CHARSET")
			f.text(c.Charset.S)
		}
		f.keys(c.Key)
	case api.VerbFetch:
		f.set(c.Set)
		f.items(c.Items)
		if c.Changed.Is {
			f.put(" (CHANGEDSINCE %s)", c.Changed.S)
		}
	case api.VerbStore:
		f.set(c.Set)
		if c.Unchanged.Is {
			f.put(" (UNCHANGEDSINCE %s)", c.Unchanged.S)
		}
		f.wrong = f.wrong || c.Mode < -1 || c.Mode > 1
		f.put(" %sFLAGS%s (%s)", map[int]string{1: "+", -1: "-"}[c.Mode], map[bool]string{true: ".SILENT"}[c.Silent], strings.Join(c.Flags, " "))
	case api.VerbCopy, api.VerbMove:
		f.set(c.Set)
		f.text(c.Name)
	case api.VerbSort:
		var by []string
		for _, one := range c.By {
			by = append(by, map[bool]string{true: "REVERSE "}[one.Reverse]+f.name(slowOrder, one.Kind))
		}
		f.put(" (%s)", strings.Join(by, " "))
		f.text(c.Charset.S)
		f.keys(c.Key)
	case api.VerbThread:
		f.put(" %s", f.name([]string{"-", "ORDEREDSUBJECT", "REFERENCES"}, c.Algorithm))
		f.text(c.Charset.S)
		f.keys(c.Key)
	case api.VerbExpunge:
		if c.Uid {
			f.set(c.Set)
		}
	}
}

func (f *slowForm) items(list []api.Item) {
	var texts []string
	for _, item := range list {
		if item.Kind != api.ItemSection {
			texts = append(texts, f.name(slowItems, item.Kind))
			continue
		}
		s := "BODY" + map[bool]string{true: ".PEEK"}[item.Peek] + "[" + item.Section.Place
		if item.Section.Kind != api.SectionWhole {
			s += map[bool]string{true: "."}[item.Section.Place != ""] + f.name(slowKinds, item.Section.Kind)
		}
		if item.Section.Kind == api.SectionFields || item.Section.Kind == api.SectionOthers {
			s += " (" + strings.Join(item.Section.Names, " ") + ")"
		}
		s += "]"
		if item.Partial {
			s += fmt.Sprintf("<%d.%d>", item.From, item.N)
		}
		texts = append(texts, s)
	}
	f.put(" (%s)", strings.Join(texts, " "))
}

func (f *slowForm) keys(k api.Key) {
	words, e := search.Print(k)
	if e != api.OK {
		f.wrong = true
		return
	}
	line, literals, e := lex.Join(words)
	f.wrong = f.wrong || e != api.OK
	// What Join writes as {n} is the announcement of the next literal: outside of quotes no other brace stands.
	for piece := range strings.SplitSeq(" "+stringForm.ReplaceAllStringFunc(line, func(s string) string {
		if s[0] == '{' {
			return "\x00"
		}
		return s
	}), "\x00") {
		f.put("%s", piece)
		if len(literals) > 0 {
			f.put("{%d+}", len(literals[0]))
			f.form += crlf + literals[0]
			f.literals = append(f.literals, literals[0])
			literals = literals[1:]
		}
	}
}
