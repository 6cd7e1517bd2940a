package tool_test

import (
	"cmp"
	"fmt"
	"maps"
	"regexp"
	"slices"
	"strconv"
	"strings"
	"testing"
	"time"

	"postbag/api"
	"postbag/store"
)

// What the calls answer, of another make.

// slowQuoted writes a quoted word by a list of how each byte is written.
func slowQuoted(text string) string {
	var how [256]string
	for i := range how {
		how[i] = fmt.Sprintf(`\x%02x`, i)
		if i > 31 && i < 127 {
			how[i] = string(rune(i))
		}
	}
	how['"'], how['\\'], how['\r'], how['\n'] = `\"`, `\\`, `\r`, `\n`
	out := `"`
	for _, b := range []byte(text) {
		out += how[b]
	}
	return out + `"`
}

const dateForm = "_2-Jan-2006 15:04:05 -0700"

func slowDate(m api.Moment) string {
	return time.Date(m.Year, time.Month(m.Month), m.Day, m.Hour, m.Minute, m.Second, 0, time.FixedZone("", m.Zone*60)).Format(dateForm)
}

// slowWords is what Dump says of an event behind its number.
func slowWords(e api.Event) string {
	var out []any
	say := func(words ...any) { out = append(out, words...) }
	boxes := func() {
		for i := range e.Names {
			say(slowQuoted(e.Names[i]), e.Boxes[i])
		}
	}
	uids := func() {
		for _, u := range e.Uids {
			say(u)
		}
	}
	switch e.Kind {
	case api.EventMake:
		say("make")
		boxes()
	case api.EventDrop:
		say("drop", e.Box)
	case api.EventRename:
		say("rename", e.Box)
		boxes()
	case api.EventInbox:
		say("inbox", e.Box)
		boxes()
	case api.EventAdd:
		say("add", e.Box, e.First, `"`+slowDate(e.Date)+`"`, slowFlags(e.Marks[0].Flags), slowQuoted(e.Body))
	case api.EventFlags:
		say("flags", e.Box)
		for _, m := range e.Marks {
			say(m.Uid, slowFlags(m.Flags))
		}
	case api.EventExpunge:
		say("expunge", e.Box)
		uids()
	case api.EventCopy:
		say("copy", e.Box, "to", e.To, "at", e.First)
		uids()
	case api.EventMove:
		say("move", e.Box, "to", e.To, "at", e.First)
		uids()
	case api.EventSubscribe:
		say("subscribe", slowQuoted(e.Name))
	case api.EventUnsubscribe:
		say("unsubscribe", slowQuoted(e.Name))
	}
	return strings.TrimSuffix(fmt.Sprintln(out...), "\n")
}

func slowFlags(flags []string) string { return "(" + strings.Join(flags, " ") + ")" }

// row is a frame whose parts are known: of one that has an event, that.
type row struct {
	kind, number int
	body         string
	e            *api.Event
}

func (x row) line() string {
	switch {
	case x.kind == api.FrameStore:
		return fmt.Sprintln(x.number, "store", len(x.body))
	case x.e != nil && x.e.Number == x.number:
		return fmt.Sprintln(x.number, slowWords(*x.e))
	}
	return fmt.Sprintln(x.number, "unreadable", len(x.body))
}

// slowCheck is what Check tells of frames that a scan tells, with some bytes behind them, if it is handed a store's events one by one.
func slowCheck(t *testing.T, s *store.Store, rows []row, behind int) []api.Finding {
	t.Helper()
	var out []api.Finding
	own := copyOf(t, s)
	at := 0
	for _, x := range rows {
		here := at
		at += 18 + len(x.body)
		switch n := own.Last() + 1; {
		case x.number < n:
			out = append(out, old(here))
			continue
		case x.number > n:
			return append(out, gap(here))
		case x.kind == api.FrameStore || x.e == nil || x.e.Number != x.number:
			return append(out, unreadable(here))
		}
		if own.May(*x.e) != api.OK {
			return append(out, misfit(here))
		}
		own.Apply(*x.e)
	}
	if behind > 0 {
		out = append(out, rest(at))
	}
	return out
}

var slowInbox = regexp.MustCompile(`(?i)^inbox(/|$)`)

// slowExport writes a mailbox's messages as one text.
func slowExport(s *store.Store, name string) (string, api.Errno) {
	name = slowInbox.ReplaceAllString(name, "INBOX$1")
	for _, b := range s.Boxes() {
		if b.Name != name {
			continue
		}
		out := ""
		mails, _ := s.Mails(b.Validity)
		for _, m := range mails {
			out += fmt.Sprintf("From %d %s", len(m.Raw), slowDate(m.Date))
			for _, f := range m.Flags {
				out += " " + f
			}
			out += "\n" + m.Raw + "\n"
		}
		return out, api.OK
	}
	return "", api.ErrBox
}

var slowHead = regexp.MustCompile(`^From (0|[1-9][0-9]{0,4}) ([ 0-3][0-9]-(?:Jan|Feb|Mar|Apr|May|Jun|Jul|Aug|Sep|Oct|Nov|Dec)-[0-9]{4} [0-2][0-9]:[0-5][0-9]:[0-5][0-9] [+-](?:[01][0-9]|2[0-3])[0-5][0-9])((?: [^ \n]+)*)\n`)

// slowMails reads a mailbox's text.
func slowMails(text string) ([]api.Mail, bool) {
	var out []api.Mail
	for text != "" {
		head := slowHead.FindStringSubmatch(text)
		if head == nil {
			return nil, false
		}
		size, _ := strconv.Atoi(head[1])
		date, err := time.Parse(dateForm, head[2])
		if err != nil || date.Format(dateForm) != head[2] || date.Year() < 1 || size > api.MaxLiteral {
			return nil, false
		}
		_, zone := date.Zone()
		text = text[len(head[0]):]
		if len(text) <= size || text[size] != '\n' {
			return nil, false
		}
		m := api.Moment{Year: date.Year(), Month: int(date.Month()), Day: date.Day(), Hour: date.Hour(), Minute: date.Minute(), Second: date.Second(), Zone: zone / 60}
		out = append(out, api.Mail{Flags: strings.FieldsFunc(head[3], func(c rune) bool { return c == ' ' }), Date: m, Raw: text[:size]})
		text = text[size+1:]
	}
	return out, true
}

// slowImport plans the messages of a text one by one.
func slowImport(t *testing.T, s *store.Store, name, text string) ([]api.Event, api.Errno) {
	t.Helper()
	if len(text) > 2097152 {
		return nil, api.ErrLong
	}
	mails, is := slowMails(text)
	if !is {
		return nil, api.ErrMbox
	}
	var out []api.Event
	own := copyOf(t, s)
	for _, m := range mails {
		e, code := own.Add(name, m.Flags, m.Date, m.Raw)
		if code != api.OK {
			return nil, code
		}
		apply(t, own, e)
		out = append(out, e)
	}
	return out, api.OK
}

// slowCompare gathers what each store has by keys, and looks at each key that one of them has.
func slowCompare(a, b *store.Store) []string {
	var out []string
	say := func(words ...any) { out = append(out, strings.TrimSuffix(fmt.Sprintln(words...), "\n")) }
	one, two := boxesOf(a), boxesOf(b)
	for _, name := range keysOf(one, two) {
		x, inOne := one[name]
		y, inTwo := two[name]
		q := slowQuoted(name)
		if inOne != inTwo {
			say("only", side(inOne), q)
			continue
		}
		for _, n := range []struct {
			what string
			x, y int
		}{{"validity", x.Validity, y.Validity}, {"next", x.Next, y.Next}, {"highest", x.Highest, y.Highest}} {
			if n.x != n.y {
				say(n.what, q, n.x, n.y)
			}
		}
		out = append(out, slowMailLines(q, mailsOf(a, x.Validity), mailsOf(b, y.Validity))...)
	}
	for _, name := range slices.Compact(slices.Sorted(slices.Values(slices.Concat(a.Subscribed(), b.Subscribed())))) {
		if first := slices.Contains(a.Subscribed(), name); first != slices.Contains(b.Subscribed(), name) {
			say("only", side(first), "subscription", slowQuoted(name))
		}
	}
	if a.Last() != b.Last() {
		say("last", a.Last(), b.Last())
	}
	return out
}

func slowMailLines(q string, one, two map[int]api.Mail) []string {
	var out []string
	say := func(words ...any) { out = append(out, strings.TrimSuffix(fmt.Sprintln(words...), "\n")) }
	for _, uid := range keysOf(one, two) {
		x, inOne := one[uid]
		y, inTwo := two[uid]
		if inOne != inTwo {
			say("only", side(inOne), q, uid)
			continue
		}
		if x.Modseq != y.Modseq {
			say("modseq", q, uid, x.Modseq, y.Modseq)
		}
		if strings.Join(x.Flags, " ") != strings.Join(y.Flags, " ") {
			say("flags", q, uid, slowFlags(x.Flags), slowFlags(y.Flags))
		}
		if fmt.Sprint(x.Date) != fmt.Sprint(y.Date) {
			say("date", q, uid)
		}
		if x.Raw != y.Raw {
			say("body", q, uid)
		}
	}
	return out
}

func side(first bool) string {
	if first {
		return "first"
	}
	return "second"
}

func boxesOf(s *store.Store) map[string]api.BoxSight {
	out := map[string]api.BoxSight{}
	for _, b := range s.Boxes() {
		out[b.Name] = b
	}
	return out
}

func mailsOf(s *store.Store, validity int) map[int]api.Mail {
	out := map[int]api.Mail{}
	mails, _ := s.Mails(validity)
	for _, m := range mails {
		out[m.Uid] = m
	}
	return out
}

func keysOf[K cmp.Ordered, V any](a, b map[K]V) []K {
	all := maps.Clone(a)
	maps.Copy(all, b)
	return slices.Sorted(maps.Keys(all))
}
