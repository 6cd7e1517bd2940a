package play_test

import (
	"errors"
	"fmt"
	"regexp"
	"strconv"
	"strings"

	"postbag/api"
	"postbag/server"
)

// What a line may be, as regular expressions.
const (
	blank    = `[ \t\r]`
	aNumber  = `(0|-?[1-9][0-9]*)`
	aQuoted  = `("(?:[^\x00-\x1f"\\\x7f]|\\["\\rn]|\\x[0-9a-fA-F]{2})*")`
	lastOnes = `(?:` + blank + `+(?:#.*)?)?$`
)

// slowReader is a reader of another make.
type slowReader struct {
	empty, rules *regexp.Regexp
	steps        map[string]*regexp.Regexp
}

func newSlowReader() *slowReader {
	lineOf := func(words string) *regexp.Regexp {
		words = strings.ReplaceAll(strings.ReplaceAll(words, "N", aNumber), "Q", aQuoted)
		return regexp.MustCompile(`(?s)^` + blank + `*` + strings.ReplaceAll(words, " ", blank+"+") + lastOnes)
	}
	s := &slowReader{
		empty: regexp.MustCompile(`(?s)^` + blank + `*(?:#.*)?$`),
		rules: lineOf("rules user Q pass Q quota N validity N uid N number N every N now N N N N N N N"),
		steps: map[string]*regexp.Regexp{},
	}
	for name, words := range map[string]string{"open": "open N", "bytes": "bytes N Q", "line": "line N Q", "cut": "cut N", "start": "start", "check": "check"} {
		s.steps[name] = lineOf(words)
	}
	for stops := range 9 {
		s.steps[fmt.Sprint("plan", stops)] = lineOf("plan" + strings.Repeat(" N N N", stops))
	}
	return s
}

// found are the numbers and the quoted texts of a line; false: it is none of this form.
func found(form *regexp.Regexp, line string) ([]int, []string, bool) {
	groups := form.FindStringSubmatch(line)
	if groups == nil {
		return nil, nil, false
	}
	var numbers []int
	var texts []string
	for _, g := range groups[1:] {
		if g[0] == '"' {
			texts = append(texts, slowUnquoted(g))
			continue
		}
		n, err := strconv.ParseInt(g, 10, 64)
		if err != nil || n > api.MaxNumber || n < -api.MaxNumber {
			return nil, nil, false
		}
		numbers = append(numbers, int(n))
	}
	return numbers, texts, true
}

// slowUnquoted reads a quoted word as Go reads it: so it does, once the bytes from 128 on are written as numbers.
func slowUnquoted(word string) string {
	var plain strings.Builder
	for i := range len(word) {
		if word[i] < 128 {
			plain.WriteByte(word[i])
		} else {
			fmt.Fprintf(&plain, `\x%02x`, word[i])
		}
	}
	text, err := strconv.Unquote(plain.String())
	if err != nil {
		panic(fmt.Sprintf("%q: %v", word, err))
	}
	return text
}

func (s *slowReader) step(line string) (api.Step, bool) {
	for name, form := range s.steps {
		n, q, is := found(form, line)
		if !is {
			continue
		}
		switch name {
		case "open":
			return open(n[0]), true
		case "bytes":
			return bytes(n[0], q[0]), true
		case "line":
			return lines(n[0], q[0]), true
		case "cut":
			return cut(n[0]), true
		case "start":
			return start(), true
		case "check":
			return check(), true
		}
		x := plan()
		for i := 0; i < len(n); i += 3 {
			x.Stops = append(x.Stops, stopAt(n[i], n[i+1], n[i+2]))
		}
		return x, true
	}
	return api.Step{}, false
}

// parse is Parse of another make.
func (s *slowReader) parse(script string) parsed {
	if len(script) > 262144 {
		return refusal(api.ErrLong, 0)
	}
	var out parsed
	begun := false
	for i, line := range strings.Split(script, "\n") {
		if s.empty.MatchString(line) {
			continue
		}
		if !begun {
			n, q, is := found(s.rules, line)
			if !is {
				return refusal(api.ErrScript, i+1)
			}
			begun = true
			out.rules = api.Rules{User: q[0], Pass: q[1], Quota: n[0], Validity: n[1], Uid: n[2], Number: n[3], Every: n[4], Now: api.Moment{Year: n[5], Month: n[6], Day: n[7], Hour: n[8], Minute: n[9], Second: n[10], Zone: n[11]}}
			continue
		}
		x, is := s.step(line)
		if !is {
			return refusal(api.ErrScript, i+1)
		}
		if len(out.steps) == 400 {
			return refusal(api.ErrLong, i+1)
		}
		out.steps = append(out.steps, x)
	}
	if !begun {
		return refusal(api.ErrScript, 0)
	}
	return out
}

// slowPieces is how each byte is written in a quoted word.
var slowPieces = func() [256]string {
	var out [256]string
	for b := range out {
		out[b] = fmt.Sprintf(`\x%02x`, b)
		if b >= ' ' && b <= '~' {
			out[b] = string(rune(b))
		}
	}
	out['"'], out['\\'], out['\r'], out['\n'] = `\"`, `\\`, `\r`, `\n`
	return out
}()

// slowQuoted is a quoted word in its one form.
func slowQuoted(text string) string {
	var out strings.Builder
	for i := range len(text) {
		out.WriteString(slowPieces[text[i]])
	}
	return `"` + out.String() + `"`
}

// slowLine is a step's line in its one form; only for steps that have one.
func slowLine(x api.Step) string {
	switch x.Kind {
	case api.StepOpen:
		return fmt.Sprintf("open %d", x.Conn)
	case api.StepCut:
		return fmt.Sprintf("cut %d", x.Conn)
	case api.StepStart:
		return "start"
	case api.StepCheck:
		return "check"
	case api.StepPlan:
		out := "plan"
		for _, s := range x.Stops {
			out += fmt.Sprintf(" %d %d %d", s.At, s.Part, s.Rest)
		}
		return out
	}
	if n := len(x.Bytes); n >= 2 && x.Bytes[n-2:] == "\r\n" {
		return fmt.Sprintf("line %d %s", x.Conn, slowQuoted(x.Bytes[:n-2]))
	}
	return fmt.Sprintf("bytes %d %s", x.Conn, slowQuoted(x.Bytes))
}

// slowText is a script in its one form.
func slowText(rules api.Rules, steps []api.Step) string {
	m := rules.Now
	out := fmt.Sprintf("rules user %s pass %s quota %d validity %d uid %d number %d every %d now %d %d %d %d %d %d %d\n", slowQuoted(rules.User), slowQuoted(rules.Pass),
		rules.Quota, rules.Validity, rules.Uid, rules.Number, rules.Every, m.Year, m.Month, m.Day, m.Hour, m.Minute, m.Second, m.Zone)
	for _, x := range steps {
		out += slowLine(x) + "\n"
	}
	return out
}

// slowPlay plays steps on a machine, one by one.
func slowPlay(p parsed) (*server.Server, [][]api.Sent, []api.Errno, error) {
	if p.code != api.OK {
		return nil, nil, nil, api.WhyScript
	}
	m, err := server.New(p.rules)
	if err != nil {
		return nil, nil, nil, err
	}
	var all [][]api.Sent
	var codes []api.Errno
	for _, x := range p.steps {
		sent, code := m.Do(x)
		all, codes = append(all, sent), append(codes, code)
	}
	return m, all, codes, nil
}

// slowRun is Run of another make, of a script that was read.
func slowRun(p parsed) string {
	m, all, codes, err := slowPlay(p)
	if errors.Is(err, api.WhyScript) {
		return fmt.Sprintf("script error %d at %d\n", p.code, p.line)
	}
	if err != nil {
		return "rules refused\n"
	}
	var out strings.Builder
	for i, sent := range all {
		fmt.Fprintf(&out, "%d: %s", i, slowLine(p.steps[i]))
		if codes[i] != api.OK {
			fmt.Fprintf(&out, " refused %d", codes[i])
		}
		out.WriteString("\n")
		for _, w := range sent {
			pieces := strings.SplitAfter(w.Text, "\n")
			if pieces[len(pieces)-1] == "" {
				pieces = pieces[:len(pieces)-1]
			}
			for _, piece := range pieces {
				fmt.Fprintf(&out, "  to %d %s\n", w.Conn, slowQuoted(piece))
			}
			if w.Closed {
				fmt.Fprintf(&out, "  closed %d\n", w.Conn)
			}
		}
	}
	if m.Down() {
		return out.String() + "stopped\n"
	}
	fmt.Fprintf(&out, "store %d\n", m.Store().Last())
	for _, b := range m.Store().Boxes() {
		fmt.Fprintf(&out, "  %s %d %d %d %d", slowQuoted(b.Name), b.Validity, b.Next, b.Highest, b.Count)
		mails, _ := m.Store().Mails(b.Validity)
		for _, mail := range mails {
			fmt.Fprintf(&out, " [%s]", strings.Join(append([]string{fmt.Sprint(mail.Uid), fmt.Sprint(mail.Modseq)}, mail.Flags...), " "))
		}
		out.WriteString("\n")
	}
	return out.String()
}
