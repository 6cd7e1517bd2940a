package mirror_test

import (
	"fmt"
	"math/rand/v2"
	"reflect"
	"slices"
	"strings"
	"testing"

	"postbag/answer"
	"postbag/api"
	"postbag/command"
	"postbag/mirror"
)

const (
	least = -1 << 63
	most  = 1<<63 - 1

	first = api.VerbCapability
	last  = api.VerbEnable
)

var (
	edges    = []int{least, least + 1, -api.MaxNumber, -1, 0, 1, 2, api.MaxScript, api.MaxScript + 1, api.MaxNumber - 1, api.MaxNumber, api.MaxNumber + 1, most - 1, most}
	outcomes = []int{api.OutOk, api.OutNo, api.OutBad}
	opening  = []int{api.VerbSelect, api.VerbExamine}
)

// client is a mirror in a test.
type client struct {
	*mirror.Mirror
	t *testing.T
}

func fresh(t *testing.T) *client { return &client{mirror.New(), t} }

// asks is a command's line as a command.
func asks(t *testing.T, line string) api.Command {
	t.Helper()
	c, e := command.Read(line, nil)
	if e != api.OK {
		t.Fatalf("%q is no command: %d", line, e)
	}
	return c
}

// tells is an answer's line as an answer.
func tells(t *testing.T, line string) api.Answer {
	t.Helper()
	r := answer.New()
	r.Feed(line + "\r\n")
	a, is := r.Next()
	if !is || a.Kind == api.AnswerBad {
		t.Fatalf("%q is no answer", line)
	}
	return a
}

func (c *client) take(asked ...api.Command) *client {
	c.t.Helper()
	for _, x := range asked {
		if e := c.Ask(x); e != api.OK {
			c.t.Fatalf("P19.1: %+v: %d", x, e)
		}
	}
	return c
}

func (c *client) ask(lines ...string) *client {
	c.t.Helper()
	for _, line := range lines {
		c.take(asks(c.t, line))
	}
	return c
}

// verb asks a command of which nothing else counts.
func (c *client) verb(tag string, verb int, uid bool) *client {
	c.t.Helper()
	return c.take(api.Command{Tag: tag, Verb: verb, Uid: uid})
}

// told hears answers that can follow.
func (c *client) told(answers ...api.Answer) *client {
	c.t.Helper()
	for _, a := range answers {
		if e := c.Hear(a); e != api.OK {
			c.t.Errorf("%s: %+v: %d", c.shown(), a, e)
		}
	}
	return c
}

func (c *client) hear(lines ...string) *client {
	c.t.Helper()
	for _, line := range lines {
		c.told(tells(c.t, line))
	}
	return c
}

// refuses hears answers that cannot follow: what can be seen stays.
func (c *client) refuses(answers ...api.Answer) *client {
	c.t.Helper()
	for _, a := range answers {
		was := c.shown()
		if e := c.Hear(a); e != api.ErrMirror || c.shown() != was {
			c.t.Errorf("%s: %+v: %d, and %s", was, a, e, c.shown())
		}
	}
	return c
}

func (c *client) refuse(lines ...string) *client {
	c.t.Helper()
	for _, line := range lines {
		c.refuses(tells(c.t, line))
	}
	return c
}

// shown is what is known, in short: validity/next/highest, and of each row the uid and ? or its flags in brackets; none, if nothing is selected.
func (c *client) shown() string {
	c.t.Helper()
	return shown(c.t, c.Sight())
}

func shown(t *testing.T, s api.MirrorSight) string {
	t.Helper()
	if !s.Selected {
		if !same(s, api.MirrorSight{}) {
			t.Errorf("P19.5: nothing is selected, but %+v", s)
		}
		return "none"
	}
	if len(s.Uids) != len(s.Flags) || len(s.Uids) != len(s.Known) {
		t.Fatalf("P19.5: %+v", s)
	}
	out := fmt.Sprintf("%d/%d/%d", s.Validity, s.Next, s.Highest)
	for i, uid := range s.Uids {
		if !s.Known[i] && len(s.Flags[i]) > 0 {
			t.Errorf("P19.5: %d: flags that are not known: %q", i+1, s.Flags[i])
		}
		if s.Known[i] {
			out += fmt.Sprintf(" %d(%s)", uid, strings.Join(s.Flags[i], " "))
		} else {
			out += fmt.Sprintf(" %d?", uid)
		}
	}
	return out
}

func (c *client) want(what, want string) *client {
	c.t.Helper()
	if got := c.shown(); got != want {
		c.t.Errorf("%s: %s, not %s", what, got, want)
	}
	return c
}

// stands is what a standing mirror shows.
const stands = `7/20/4 0? 9(\Seen) 0(k) 12?`

// standing has a mailbox of four messages selected, and no command at hand.
func standing(t *testing.T) *client {
	t.Helper()
	c := fresh(t).ask("s SELECT inbox").hear("* 4 EXISTS", "* OK [UIDVALIDITY 7] x", "* OK [UIDNEXT 20] x", "* OK [HIGHESTMODSEQ 4] x", "s OK x")
	c.ask("f FETCH 1:* FLAGS").hear(`* 2 FETCH (UID 9 FLAGS (\Seen))`, "* 3 FETCH (FLAGS (k))", "* 4 FETCH (UID 12)", "f OK x")
	return c.want("standing", stands)
}

// moment is a way to come to a mirror that stands somewhere.
type moment struct {
	name     string
	build    func(t *testing.T) *client
	atHand   int // the verb of x, 0: none; another command waits behind it
	uid      bool
	selected bool
	within   bool // a SELECT is at hand, and has told something
}

// moments are all that the table of answers tells apart.
func moments() []moment {
	out := []moment{
		{"nothing asked, nothing selected", fresh, 0, false, false, false},
		{"nothing asked, selected", standing, 0, false, true, false},
	}
	for verb := first; verb <= last; verb++ {
		for _, uid := range []bool{false, true} {
			out = append(out, moment{fmt.Sprintf("the verb %d, uid %v, nothing selected", verb, uid), func(t *testing.T) *client {
				return fresh(t).verb("x", verb, uid).verb("y", api.VerbNoop, false)
			}, verb, uid, false, false})
			out = append(out, moment{fmt.Sprintf("the verb %d, uid %v, selected", verb, uid), func(t *testing.T) *client {
				return standing(t).verb("x", verb, uid).verb("y", api.VerbSelect, false)
			}, verb, uid, true, false})
			if slices.Contains(opening, verb) {
				out = append(out, moment{fmt.Sprintf("within the verb %d, uid %v", verb, uid), func(t *testing.T) *client {
					return standing(t).verb("x", verb, uid).verb("y", api.VerbNoop, false).hear("* 3 EXISTS", "* OK [UIDVALIDITY 8] x")
				}, verb, uid, false, true})
			}
		}
	}
	return out
}

func (m moment) opens() bool { return slices.Contains(opening, m.atHand) }

// wantRefused holds that an answer cannot follow, and that nothing at all has changed behind it.
func (m moment) wantRefused(t *testing.T, a api.Answer) {
	t.Helper()
	one, two := m.build(t), m.build(t)
	if e := one.Hear(a); e != api.ErrMirror {
		t.Errorf("P19.2: %s: %+v: %d", m.name, a, e)
	}
	if !reflect.DeepEqual(one.Mirror, two.Mirror) {
		t.Errorf("P19.2: %s: %+v is refused, but %+v, not %+v", m.name, a, one.Mirror, two.Mirror)
	}
}

// wantTaken holds that an answer can follow: the mirror behind it.
func (m moment) wantTaken(t *testing.T, a api.Answer) *client {
	t.Helper()
	one := m.build(t)
	if e := one.Hear(a); e != api.OK {
		t.Errorf("P19.2: %s: %+v: %d", m.name, a, e)
	}
	return one
}

// wantMute holds that an answer can follow and says nothing (but that it ends a picture, where a SELECT is at hand).
func (m moment) wantMute(t *testing.T, a api.Answer) {
	t.Helper()
	one, two := m.wantTaken(t, a), m.build(t)
	if m.opens() {
		two.hear("* 1 RECENT")
	}
	if !reflect.DeepEqual(one.Mirror, two.Mirror) {
		t.Errorf("P19.2: %s: %+v: %+v, not %+v", m.name, a, one.Mirror, two.Mirror)
	}
}

// same is reflect.DeepEqual, but that a nil list and an empty one are the same (W5).
func same(a, b any) bool { return sameValues(reflect.ValueOf(a), reflect.ValueOf(b)) }

func sameValues(a, b reflect.Value) bool {
	switch a.Kind() {
	case reflect.Slice:
		if a.Len() != b.Len() {
			return false
		}
		for i := range a.Len() {
			if !sameValues(a.Index(i), b.Index(i)) {
				return false
			}
		}
		return true
	case reflect.Struct:
		for i := range a.NumField() {
			if !sameValues(a.Field(i), b.Field(i)) {
				return false
			}
		}
		return true
	}
	return reflect.DeepEqual(a.Interface(), b.Interface())
}

func state(tag string, outcome int) api.Answer {
	return api.Answer{Kind: api.AnswerState, Tag: tag, Outcome: outcome, Text: "x"}
}

func number(n int) api.Value { return api.Value{Kind: api.ValueNumber, Num: n} }

func atom(text string) api.Value { return api.Value{Kind: api.ValueAtom, Text: text} }

func values(kids ...api.Value) api.Value { return api.Value{Kind: api.ValueList, Kids: kids} }

func flagList(flags ...string) api.Value {
	v := values()
	for _, f := range flags {
		v.Kids = append(v.Kids, atom(f))
	}
	return v
}

func datum(name string, v api.Value) api.Datum { return api.Datum{Name: name, Value: v} }

func fetched(num int, data ...api.Datum) api.Answer {
	return api.Answer{Kind: api.AnswerFetch, Num: num, Data: data}
}

func set(ends ...int) []api.Range {
	var out []api.Range
	for i := 0; i < len(ends); i += 2 {
		out = append(out, api.Range{From: ends[i], To: ends[i+1]})
	}
	return out
}

func oneOf[E any](r *rand.Rand, list ...E) E { return list[r.IntN(len(list))] }
