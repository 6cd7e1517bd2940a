package mirror_test

import (
	"fmt"
	"reflect"
	"slices"
	"testing"

	"postbag/api"
)

// P19.1: what is no command: without a tag, of a verb that there is not, both at once. Nothing has changed then.
func TestAskRefuses(t *testing.T) {
	full := asks(t, `t UID STORE 1:* FLAGS.SILENT (\Seen)`)
	for _, build := range []func(t *testing.T) *client{fresh, standing} {
		one, two := build(t), build(t)
		refuse := func(tag string, verb int) {
			full.Tag, full.Verb = tag, verb
			for _, c := range []api.Command{{Tag: tag, Verb: verb}, full} {
				if e := one.Ask(c); e != api.ErrMirror || !reflect.DeepEqual(one.Mirror, two.Mirror) {
					t.Errorf("P19.1: %+v: %d, %+v", c, e, one.Mirror)
				}
			}
		}
		for verb := first; verb <= last; verb++ {
			refuse("", verb)
		}
		for _, verb := range slices.Concat(edges[:5], edges[7:], []int{30, 31, 255, 256 + api.VerbNoop, -api.VerbNoop}) {
			refuse("t", verb)
			refuse("", verb)
		}
		one.refuse("t OK x")
		one.refuses(state("", 0), state("t", api.OutBad))
	}
}

// P19.1: every verb is taken, with any tag that is not empty.
func TestAskTakes(t *testing.T) {
	for verb := first; verb <= last; verb++ {
		for _, tag := range []string{"t", " ", "*", "+", "\x00", "a b", "\r\n", "ä", fmt.Sprint(verb)} {
			c := fresh(t).verb(tag, verb, false)
			c.refuses(state(tag+"x", api.OutOk), state("x"+tag, api.OutOk)).told(state(tag, api.OutOk)).refuses(state(tag, api.OutOk))
		}
	}
}

// P19.1, P19.3: several commands that wait are answered in their order.
func TestAskSeveral(t *testing.T) {
	c := fresh(t).ask("a NOOP", "b NOOP", "A NOOP", "b CHECK")
	c.refuse("b OK x", "A OK x", "x OK x").hear("a OK x")
	c.refuse("a OK x", "A OK x").hear("b NO x")
	c.ask("c NOOP").refuse("a OK x", "b OK x", "c OK x").hear("A BAD x")
	c.refuse("c OK x", "A OK x").hear("b OK x")
	c.refuse("b OK x").hear("c OK x").refuse("c OK x", "a OK x")
}

// P19.1: what is at hand is the first of those that wait, whatever was asked behind it.
func TestAskBehindOthers(t *testing.T) {
	c := standing(t).ask("a NOOP", "b SELECT inbox", "c FETCH 1 FLAGS", "d CLOSE")
	c.hear("* 5 EXISTS", "* 1 EXPUNGE", "* OK [UIDVALIDITY 99] x", "a OK x").want("behind NOOP", `7/20/4 9(\Seen) 0(k) 12? 0?`)
	c.refuse("* 1 EXPUNGE", "* 1 FETCH (UID 1)").hear("* 2 EXISTS", "* OK [UIDVALIDITY 8] x").want("within SELECT", "none").hear("b OK x").want("behind SELECT", "8/0/0 0? 0?")
	c.refuse("* 1 EXPUNGE").hear("* 1 FETCH (UID 3)", "c OK x").want("behind FETCH", "8/0/0 3? 0?")
	c.hear("* 1 EXPUNGE", "* 1 FETCH (UID 4)").want("ahead of CLOSE", "8/0/0 4?").hear("d OK x").want("behind CLOSE", "none")
	c.refuse("* 1 EXISTS")
}

// P19.1: a long row of commands that wait, asked and answered in turns.
func TestAskMany(t *testing.T) {
	c := standing(t)
	asked, answered := 0, 0
	for round := range 60 {
		for range round % 13 * 7 {
			c.verb(fmt.Sprint("t", asked), api.VerbNoop, false)
			asked++
		}
		for range min(asked-answered, round%7*9) {
			c.refuses(state(fmt.Sprint("t", answered+1), api.OutOk)).told(state(fmt.Sprint("t", answered), api.OutOk))
			answered++
		}
	}
	for ; answered < asked; answered++ {
		c.told(state(fmt.Sprint("t", answered), api.OutNo))
	}
	c.refuses(state(fmt.Sprint("t", asked), api.OutOk)).want("all are answered", stands)
	if asked < 1000 {
		t.Errorf("%d commands are too few", asked)
	}
}
