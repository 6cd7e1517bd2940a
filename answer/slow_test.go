package answer_test

import (
	"fmt"
	"regexp"
	"strconv"
	"strings"

	"postbag/api"
)

// What Print and a Reader must answer, by means of another make: forms of texts, and lists that are folded from the inside.

const (
	atomBytes   = `[!#$&'+-Z^-z|~]+`
	numberText  = `(?:0|[1-9][0-9]{0,8}|[1-3][0-9]{9}|4[01][0-9]{8}|42[0-8][0-9]{7}|429[0-3][0-9]{6}|4294[0-8][0-9]{5}|42949[0-5][0-9]{4}|429496[0-6][0-9]{3}|4294967[01][0-9]{2}|42949672[0-8][0-9]|429496729[0-5])`
	signText    = `(?:\\\*|\\?` + atomBytes + `)`
	innerText   = `(?:` + atomBytes + `(?: \(` + atomBytes + `(?: ` + atomBytes + `)*\))?)?`
	datumText   = `(` + atomBytes + `)(?:\[` + innerText + `\](?:<` + numberText + `>)?)?`
	quotedText  = `"(?:[\x01-\x09\x0b\x0c\x0e-!#-\[\]-\x7f]|\\["\\])*"`
	tagText     = `[!#$&',-Z^-z|~]{1,32}`
	signsText   = `(?:` + signText + `(?: ` + signText + `)*)?`
	stringSign  = "\x01" // stands for a string
	looseSign   = "\x02" // for one in quotes which a name has not
	slashSign   = "\x03" // for the one of these that parts levels
	greatestSet = 64
)

func form(s string) *regexp.Regexp { return regexp.MustCompile(`\A(?:` + s + `)\z`) }

var (
	atomForm     = form(atomBytes)
	nilForm      = form(`(?i:nil)`)
	numberForm   = form(numberText)
	signForm     = form(signText)
	signsForm    = form(signsText)
	datumForm    = form(datumText)
	tagForm      = form(tagText)
	humanForm    = form(`[!-Z\\-~][ -~]*`)
	announceForm = regexp.MustCompile(`\{([0-9]+)\}\z`)
	setForm      = form(`([1-9][0-9]*(?::[1-9][0-9]*)?,)*[1-9][0-9]*(?::[1-9][0-9]*)?`)
	digitsForm   = regexp.MustCompile(`[0-9]+`)
	literalForm  = regexp.MustCompile(`\A\{([1-9][0-9]*)\}\r\n`)
	quotedForm   = regexp.MustCompile(`\A` + quotedText)
	wordForm     = regexp.MustCompile(atomBytes)
	foldForm     = regexp.MustCompile(`\((?:\x01(?: \x01)*)?\)`)
	codeArgs     = map[string]string{
		"ALREADYEXISTS": "", "NONEXISTENT": "", "CANNOT": "", "OVERQUOTA": "", "LIMIT": "", "TRYCREATE": "", "READ-ONLY": "", "READ-WRITE": "",
		"UIDNEXT": "n", "UIDVALIDITY": "n", "UNSEEN": "n", "PERMANENTFLAGS": "f", "HIGHESTMODSEQ": "n", "APPENDUID": "ns", "COPYUID": "nss", "MODIFIED": "s",
		"CLOSED": "", "CAPABILITY": "a", "AUTHENTICATIONFAILED": "", "INUSE": "", "HASCHILDREN": "", "BADCHARSET": "l", "EXPUNGEISSUED": "",
	}
	codeNames = strings.Fields("- ALREADYEXISTS NONEXISTENT CANNOT OVERQUOTA LIMIT TRYCREATE READ-ONLY READ-WRITE UIDNEXT UIDVALIDITY UNSEEN PERMANENTFLAGS HIGHESTMODSEQ APPENDUID COPYUID MODIFIED CLOSED CAPABILITY AUTHENTICATIONFAILED INUSE HASCHILDREN BADCHARSET EXPUNGEISSUED")
)

func isSlowAtom(s string) bool {
	return atomForm.MatchString(s) && !numberForm.MatchString(s) && !nilForm.MatchString(s)
}

func isSlowHuman(s string) bool { return humanForm.MatchString(s) && !announceForm.MatchString(s) }

func isSlowDatum(s string) bool {
	m := datumForm.FindStringSubmatch(s)
	return m != nil && isSlowAtom(m[1])
}

func isSlowSet(s string) bool {
	if !setForm.MatchString(s) || strings.Count(s, ",") >= greatestSet {
		return false
	}
	for _, end := range digitsForm.FindAllString(s, -1) {
		if !numberForm.MatchString(end) {
			return false
		}
	}
	for _, piece := range strings.Split(s, ",") {
		if from, to, is := strings.Cut(piece, ":"); is && from == to {
			return false
		}
	}
	return true
}

func isSlowQuotable(s string) bool {
	for i := range len(s) {
		if s[i] == 0 || s[i] == '\r' || s[i] == '\n' || s[i] > 127 {
			return false
		}
	}
	return true
}

// slowPage gathers a line; a text that may not stand there spoils it.
type slowPage struct {
	out     strings.Builder
	isWrong bool
}

func (p *slowPage) want(is bool) { p.isWrong = p.isWrong || !is }

func (p *slowPage) put(format string, args ...any) { fmt.Fprintf(&p.out, format, args...) }

func (p *slowPage) number(n, least int) string {
	p.want(n >= least && n <= 4294967295)
	return fmt.Sprint(n)
}

func (p *slowPage) string(s string) string {
	if isSlowQuotable(s) {
		return `"` + strings.NewReplacer(`"`, `\"`, `\`, `\\`).Replace(s) + `"`
	}
	p.want(len(s) <= 65536)
	return fmt.Sprintf("{%d}\r\n%s", len(s), s)
}

func (p *slowPage) name(s string) string {
	if isSlowAstring(s) {
		return s
	}
	return p.string(s)
}

func (p *slowPage) words(words []string, is func(string) bool) string {
	for _, s := range words {
		p.want(is(s))
	}
	return strings.Join(words, " ")
}

func (p *slowPage) value(v api.Value, deep int) string {
	left := v
	left.Kind = 0
	s := "NIL"
	switch v.Kind {
	case api.ValueNil:
	case api.ValueNumber:
		s, left.Num = p.number(v.Num, 0), 0
	case api.ValueAtom:
		p.want(isSlowAtom(v.Text))
		s, left.Text = v.Text, ""
	case api.ValueString:
		s, left.Text = p.string(v.Text), ""
	case api.ValueList:
		p.want(deep <= 24)
		var kids []string
		for _, kid := range v.Kids {
			if p.isWrong {
				break
			}
			kids = append(kids, p.value(kid, deep+1))
		}
		s, left.Kids = "("+strings.Join(kids, " ")+")", nil
	default:
		p.want(false)
	}
	p.want(left.Num == 0 && left.Text == "" && len(left.Kids) == 0)
	return s
}

// texts are the atoms of a list, or of a value alone.
func (p *slowPage) texts(values ...api.Value) []string {
	var list []string
	for _, v := range values {
		p.want(v.Kind == api.ValueAtom && v.Num == 0 && len(v.Kids) == 0)
		list = append(list, v.Text)
	}
	return list
}

func (p *slowPage) list(v api.Value, is func(string) bool) string {
	p.want(v.Kind == api.ValueList && v.Num == 0 && v.Text == "")
	return "(" + p.words(p.texts(v.Kids...), is) + ")"
}

func (p *slowPage) pairs(values []api.Value, ahead string) string {
	p.want(len(values)%2 == 0)
	var s []string
	for i, v := range values {
		p.want(v.Kind == 2-i%2)
		s = append(s, ahead+p.value(v, 1))
	}
	return strings.Join(s, " "[len(ahead):])
}

func (p *slowPage) thread(t api.Twig, deep int, isAlone bool) string {
	p.want(deep <= 64 && (t.Uid != 0 || len(t.Kids) >= 2 && !isAlone))
	if p.isWrong {
		return ""
	}
	var s, kids string
	if t.Uid != 0 {
		s = p.number(t.Uid, 1)
	}
	for _, kid := range t.Kids {
		one := p.thread(kid, deep+1, len(t.Kids) == 1)
		if len(t.Kids) > 1 {
			one = "(" + one + ")"
		}
		kids += one
	}
	if s != "" && kids != "" {
		s += " "
	}
	return s + kids
}

func (p *slowPage) code(a api.Answer) {
	if a.Code < 1 || a.Code > 23 {
		p.want(a.Code == 0 && len(a.Args) == 0)
		return
	}
	shape := codeArgs[codeNames[a.Code]]
	p.put("[%s", codeNames[a.Code])
	if shape == "a" {
		p.want(len(a.Args) > 0)
		p.put(" %s", p.words(p.texts(a.Args...), isSlowAtom))
	} else if len(a.Args) != len(shape) {
		p.want(false)
	} else {
		for i, v := range a.Args {
			switch shape[i] {
			case 'n':
				p.want(v.Kind == api.ValueNumber)
				p.put(" %s", p.value(v, 1))
			case 's':
				p.put(" %s", p.words(p.texts(v), isSlowSet))
			case 'f':
				p.put(" %s", p.list(v, signForm.MatchString))
			case 'l':
				p.put(" %s", p.list(v, isSlowAtom))
			}
		}
	}
	p.put("] ")
}

func (p *slowPage) set(set []api.Range) string {
	var pieces []string
	for _, r := range set {
		piece := p.number(r.From, 1)
		if r.From != r.To {
			piece += ":" + p.number(r.To, 1)
		}
		pieces = append(pieces, piece)
	}
	p.want(len(set) <= greatestSet)
	return strings.Join(pieces, ",")
}

// answer writes, and takes what it writes out of the answer that is left over.
func (p *slowPage) answer(a api.Answer) (left api.Answer) {
	left = a
	left.Kind = 0
	switch a.Kind {
	case api.AnswerState:
		outcome := map[int]string{1: "OK", 2: "NO", 3: "BAD", 4: "BYE"}[a.Outcome]
		p.want(outcome != "" && isSlowHuman(a.Text) && (a.Tag == "" || tagForm.MatchString(a.Tag) && outcome != "BYE"))
		tag := a.Tag
		if tag == "" {
			tag = "*"
		}
		p.put("%s %s ", tag, outcome)
		p.code(a)
		p.put("%s", a.Text)
		left.Tag, left.Outcome, left.Code, left.Args, left.Text = "", 0, 0, nil, ""
	case api.AnswerContinue:
		p.want(isSlowHuman(a.Text))
		p.put("+ %s", a.Text)
		left.Text = ""
	case api.AnswerCapability, api.AnswerEnabled:
		p.want(len(a.Flags) > 0 || a.Kind == api.AnswerEnabled)
		p.put("%s", strings.TrimSuffix(map[int]string{3: "* CAPABILITY ", 16: "* ENABLED "}[a.Kind]+p.words(a.Flags, isSlowAtom), " "))
		left.Flags = nil
	case api.AnswerFlags:
		p.put("* FLAGS (%s)", p.words(a.Flags, signForm.MatchString))
		left.Flags = nil
	case api.AnswerList, api.AnswerLsub:
		p.put("* %s (%s) \"/\" %s", map[int]string{5: "LIST", 6: "LSUB"}[a.Kind], p.words(a.Flags, signForm.MatchString), p.name(a.Name))
		left.Flags, left.Name = nil, ""
	case api.AnswerSearch, api.AnswerSort:
		p.put("* %s", map[int]string{7: "SEARCH", 8: "SORT"}[a.Kind])
		for _, n := range a.Nums {
			p.put(" %s", p.number(n, 1))
		}
		if a.Modseq != 0 {
			p.put(" (MODSEQ %s)", p.number(a.Modseq, 1))
		}
		left.Nums, left.Modseq = nil, 0
	case api.AnswerThread:
		p.put("* THREAD")
		for i, twig := range a.Twigs {
			p.put("%s(%s)", strings.Repeat(" ", max(0, 1-i)), p.thread(twig, 1, false))
		}
		left.Twigs = nil
	default:
		p.others(a, &left)
	}
	return left
}

func (p *slowPage) others(a api.Answer, left *api.Answer) {
	switch a.Kind {
	case api.AnswerStatus:
		p.put("* STATUS %s (%s)", p.name(a.Name), p.pairs(a.Pairs, ""))
		left.Name, left.Pairs = "", nil
	case api.AnswerExists, api.AnswerRecent:
		p.put("* %s %s", p.number(a.Num, 0), map[int]string{11: "EXISTS", 12: "RECENT"}[a.Kind])
		left.Num = 0
	case api.AnswerExpunge:
		p.put("* %s EXPUNGE", p.number(a.Num, 1))
		left.Num = 0
	case api.AnswerFetch:
		var data []string
		for _, d := range a.Data {
			p.want(isSlowDatum(d.Name))
			if d.Name == "FLAGS" {
				data = append(data, "FLAGS "+p.list(d.Value, signForm.MatchString))
			} else {
				data = append(data, d.Name+" "+p.value(d.Value, 1))
			}
		}
		p.want(len(data) > 0)
		p.put("* %s FETCH (%s)", p.number(a.Num, 1), strings.Join(data, " "))
		left.Num, left.Data = 0, nil
	case api.AnswerEsearch:
		p.want(tagForm.MatchString(a.Tag))
		for _, v := range a.Pairs {
			p.want(v.Text != "UID" && v.Text != "ALL" && v.Text != "MODSEQ")
		}
		p.put("* ESEARCH (TAG \"%s\")%s%s", a.Tag, strings.Repeat(" UID", map[bool]int{true: 1}[a.Uid]), p.pairs(a.Pairs, " "))
		if len(a.Set) > 0 {
			p.put(" ALL %s", p.set(a.Set))
		}
		if a.Modseq != 0 {
			p.put(" MODSEQ %s", p.number(a.Modseq, 1))
		}
		left.Tag, left.Uid, left.Pairs, left.Set, left.Modseq = "", false, nil, nil, 0
	case api.AnswerNamespace:
		p.put("* NAMESPACE ((\"\" \"/\")) NIL NIL")
	default:
		p.want(false)
	}
}

func slowPrint(a api.Answer) (string, api.Errno) {
	p := slowPage{}
	left := p.answer(a)
	if p.isWrong || shown(left) != shown(api.Answer{}) {
		return "", api.ErrAnswer
	}
	return p.out.String() + crlf, api.OK
}

// slowCut cuts bytes into answers, each without its CR LF; the rest has not come whole.
func slowCut(fed string) []string {
	var lines []string
	begin, from := 0, 0
	for at := 0; at+1 < len(fed); at++ {
		if at < from || fed[at:at+2] != crlf {
			continue
		}
		if m := announceForm.FindStringSubmatch(fed[from:at]); m != nil {
			if n, err := strconv.ParseUint(m[1], 10, 64); err == nil && n <= 65536 {
				from = at + 2 + int(n)
				continue
			}
		}
		lines = append(lines, fed[begin:at])
		begin, from = at+2, at+2
	}
	return lines
}

// isSlowAnswer tells whether a line, with its literals, is one that Print writes.
func isSlowAnswer(line string) bool {
	if human, is := strings.CutPrefix(line, "+ "); is {
		return isSlowHuman(human)
	}
	if m := stateForm.FindStringSubmatch(line); m != nil {
		isTag := m[1] == "*" || tagForm.MatchString(m[1]) && m[2] != "BYE"
		return isTag && isSlowHuman(m[5]) && (m[3] == "" || isSlowCode(m[4]))
	}
	hidden, is := hide(line)
	if !is {
		return false
	}
	for _, k := range []struct {
		form *regexp.Regexp
		is   func([]string) bool
	}{
		{capabilityForm, func(m []string) bool { return allAre(m[1], " ", isSlowAtom) }},
		{enabledForm, func(m []string) bool {
			return m[1] == "" || m[1][0] == ' ' && allAre(m[1][1:], " ", isSlowAtom)
		}},
		{flagsForm, func([]string) bool { return true }},
		{listForm, func(m []string) bool { return isSlowName(m[1]) }},
		{searchForm, func(m []string) bool { return !zeroForm.MatchString(m[1]) }},
		{threadForm, func(m []string) bool { return m[1] == "" || areSlowTwigs(m[1][1:]) }},
		{statusForm, func(m []string) bool { return isSlowName(m[1]) && (m[2] == "" || areSlowPairs(m[2])) }},
		{countForm, func(m []string) bool { return m[1] != "0" || m[2] != "EXPUNGE" }},
		{fetchForm, func(m []string) bool { return m[1] != "0" && areSlowData(m[2]) }},
		{namespaceForm, func([]string) bool { return line == `* NAMESPACE (("" "/")) NIL NIL` }},
	} {
		if m := k.form.FindStringSubmatch(hidden); m != nil {
			return k.is(m)
		}
	}
	m := esearchForm.FindStringSubmatch(line)
	return m != nil && (m[1] == "" || areSlowPairs(m[1][1:])) && !ownForm.MatchString(m[1]) && (m[2] == "" || isSlowSet(m[2])) && m[3] != "0"
}

var (
	stateForm      = regexp.MustCompile(`\A([^ ]+) (OK|NO|BAD|BYE) (\[([^\]]*)\] )?((?s:.*))\z`)
	capabilityForm = form(`\* CAPABILITY (.*)`)
	enabledForm    = form(`\* ENABLED(.*)`)
	flagsForm      = form(`\* FLAGS \(` + signsText + `\)`)
	listForm       = form(`\* (?:LIST|LSUB) \(` + signsText + `\) \x03 ([^ ]*)`)
	searchForm     = form(`\* (?:SEARCH|SORT)((?: ` + numberText + `)*(?: \(MODSEQ ` + numberText + `\))?)`)
	zeroForm       = regexp.MustCompile(` 0(?: |\)|\z)`)
	threadForm     = form(`\* THREAD( .*)?`)
	statusForm     = form(`\* STATUS ([^ ]*) \((.*)\)`)
	countForm      = form(`\* (` + numberText + `) (EXISTS|RECENT|EXPUNGE)`)
	fetchForm      = form(`\* (` + numberText + `) FETCH \((.*)\)`)
	namespaceForm  = form(`\* NAMESPACE.*`)
	esearchForm    = form(`\* ESEARCH \(TAG "` + tagText + `"\)(?: UID)?((?: ` + atomBytes + ` ` + numberText + `)*?)(?: ALL ([^ ]+))?(?: MODSEQ (` + numberText + `))?`)
	ownForm        = regexp.MustCompile(` (?:UID|ALL|MODSEQ) `)
	uidsForm       = form(`([0-9 ]*[0-9])(?: (\(.*))?|(\(.*)`)
)

func allAre(s, between string, is func(string) bool) bool {
	for _, one := range strings.Split(s, between) {
		if !is(one) {
			return false
		}
	}
	return true
}

func isSlowName(s string) bool { return s == stringSign || isSlowAstring(s) }

func isSlowAstring(s string) bool { return atomForm.MatchString(s) && !nilForm.MatchString(s) }

func areSlowPairs(s string) bool {
	words := strings.Split(s, " ")
	for i, word := range words {
		if i%2 == 0 && !isSlowAtom(word) || i%2 == 1 && !numberForm.MatchString(word) {
			return false
		}
	}
	return len(words)%2 == 0
}

func isSlowCode(s string) bool {
	name, rest, hasArgs := strings.Cut(s, " ")
	shape, is := codeArgs[name]
	switch {
	case !is || hasArgs != (shape != ""):
		return false
	case shape == "":
		return true
	case shape == "a":
		return allAre(rest, " ", isSlowAtom)
	case shape == "f" || shape == "l":
		inside, isOpened := strings.CutPrefix(rest, "(")
		inside, isClosed := strings.CutSuffix(inside, ")")
		return isOpened && isClosed && (shape == "f" && signsForm.MatchString(inside) || shape == "l" && (inside == "" || allAre(inside, " ", isSlowAtom)))
	}
	words := strings.Split(rest, " ")
	if len(words) != len(shape) {
		return false
	}
	for i, word := range words {
		if shape[i] == 'n' && !numberForm.MatchString(word) || shape[i] == 's' && !isSlowSet(word) {
			return false
		}
	}
	return true
}

// hide puts a sign in the place of each string; of one that a name would be written without, another sign.
func hide(line string) (string, bool) {
	var out strings.Builder
	for line != "" {
		if m := literalForm.FindStringSubmatch(line); m != nil {
			n, err := strconv.Atoi(m[1])
			line = line[len(m[0]):]
			if err != nil || n > 65536 || n > len(line) || isSlowQuotable(line[:n]) {
				return "", false
			}
			out.WriteString(stringSign)
			line = line[n:]
			continue
		}
		if q := quotedForm.FindString(line); q != "" {
			switch {
			case q == `"/"`:
				out.WriteString(slashSign)
			case isSlowAstring(q[1 : len(q)-1]):
				out.WriteString(looseSign)
			default:
				out.WriteString(stringSign)
			}
			line = line[len(q):]
			continue
		}
		if line[0] < 32 || line[0] > 126 || line[0] == '"' || line[0] == '{' {
			return "", false
		}
		out.WriteByte(line[0])
		line = line[1:]
	}
	return out.String(), true
}

func areSlowTwigs(s string) bool {
	_, is := slowTwigs(s, 1)
	return is && s != ""
}

// slowTwigs counts threads in brackets that lie so deep.
func slowTwigs(s string, deep int) (int, bool) {
	count := 0
	for ; s != ""; count++ {
		n := closing(s)
		if n == 0 || !isSlowThread(s[1:n-1], deep) {
			return 0, false
		}
		s = s[n:]
	}
	return count, true
}

// isSlowThread takes a row of uids as twigs of which each is the only kid of the one ahead of it.
func isSlowThread(s string, deep int) bool {
	m := uidsForm.FindStringSubmatch(s)
	if m == nil {
		return false
	}
	deep++
	if m[1] != "" {
		deep += strings.Count(m[1], " ")
	}
	if deep > 65 || m[1] != "" && !allAre(m[1], " ", func(one string) bool { return one != "0" && numberForm.MatchString(one) }) {
		return false
	}
	kids, is := slowTwigs(m[2]+m[3], deep)
	return is && kids != 1
}

// closing is how long the brackets are with which a text begins; 0, if it does not begin so, or they do not end.
func closing(s string) int {
	open := 0
	for i := range len(s) {
		switch s[i] {
		case '(':
			open++
		case ')':
			open--
		}
		if i == 0 && open != 1 {
			return 0
		}
		if open == 0 {
			return i + 1
		}
	}
	return 0
}

func areSlowData(s string) bool {
	for {
		m := datumHead.FindStringSubmatch(s)
		if m == nil || !isSlowAtom(m[2]) {
			return false
		}
		s = s[len(m[0]):]
		n := strings.IndexByte(s, ' ')
		if strings.HasPrefix(s, "(") {
			n = closing(s)
		} else if n < 0 {
			n = len(s)
		}
		if m[1] == "FLAGS" && !flagListForm.MatchString(s[:n]) || m[1] != "FLAGS" && !isSlowValue(s[:n]) {
			return false
		}
		if s = s[n:]; s == "" {
			return true
		}
		if s[0] != ' ' {
			return false
		}
		s = s[1:]
	}
}

var (
	datumHead    = regexp.MustCompile(`\A(` + datumText + `) `)
	flagListForm = form(`\(` + signsText + `\)`)
)

func isSlowValue(s string) bool {
	s = strings.NewReplacer(looseSign, stringSign, slashSign, stringSign).Replace(s)
	s = wordForm.ReplaceAllStringFunc(s, func(word string) string {
		if word != "NIL" && nilForm.MatchString(word) {
			return "?"
		}
		return stringSign
	})
	for range 24 {
		s = foldForm.ReplaceAllString(s, stringSign)
	}
	return s == stringSign
}
