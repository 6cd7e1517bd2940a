package mirror_test

import (
	"fmt"
	"testing"

	"postbag/api"
)

// beginning are answers that can follow while a SELECT is at hand, and are not its own.
var beginning = []string{
	"* FLAGS (k)", "* 0 RECENT", "* 9 RECENT", "+ go ahead", "* SEARCH 1", "* SORT 1", "* THREAD (1)", "* ENABLED x", "* CAPABILITY x", `* LIST () "/" a`, `* LSUB () "/" a`,
	"* STATUS a (MESSAGES 5)", `* ESEARCH (TAG "n")`, "* NAMESPACE ((\"\" \"/\")) NIL NIL", "* OK x", "* OK [CLOSED] x", "* OK [UNSEEN 1] x", "* NO x", "* BAD x", "* BYE x",
}

// A new picture (P19.2): the first answer behind a SELECT or EXAMINE ends the one that there was, whatever follows.
func TestBeginEnds(t *testing.T) {
	for _, verb := range opening {
		for _, line := range beginning {
			for outcome, want := range map[int]string{api.OutOk: "0/0/0", api.OutNo: "none", api.OutBad: "none"} {
				c := standing(t).verb("n", verb, false).want("no answer as yet", stands)
				c.hear(line).want(line, "none").told(state("n", outcome)).want(fmt.Sprintf("%d, %q, %d", verb, line, outcome), want)
			}
		}
	}
}

// A new picture: what its first answer itself tells is of the new one.
func TestBeginTells(t *testing.T) {
	for line, want := range map[string]string{
		"* 0 EXISTS":                 "0/0/0",
		"* 2 EXISTS":                 "0/0/0 0? 0?",
		"* 4 EXISTS":                 "0/0/0 0? 0? 0? 0?",
		"* 5 EXISTS":                 "0/0/0 0? 0? 0? 0? 0?",
		"* OK [UIDVALIDITY 3] x":     "3/0/0",
		"* OK [UIDNEXT 3] x":         "0/3/0",
		"* OK [HIGHESTMODSEQ 3] x":   "0/0/3",
		"* OK [HIGHESTMODSEQ 0] x":   "0/0/0",
		"* OK [UIDVALIDITY 4294] it": "4294/0/0",
	} {
		for _, verb := range opening {
			for _, build := range []func(t *testing.T) *client{fresh, standing} {
				build(t).verb("n", verb, false).hear(line).want(line, "none").hear("n OK x").want(line, want)
				build(t).verb("n", verb, false).hear(line).want(line, "none").hear("n BAD x").want(line, "none")
				build(t).verb("n", verb, false).hear(line).want(line, "none").hear("n NO x").want(line, "none")
			}
		}
	}
}

// A new picture: its own tagged answer as the first one. BAD leaves what there was, NO leaves none, OK brings a new one of which nothing was told.
func TestBeginByItsOwn(t *testing.T) {
	for _, verb := range opening {
		standing(t).verb("n", verb, false).hear("n BAD x").want("BAD", stands)
		standing(t).verb("n", verb, false).hear("n NO x").want("NO", "none")
		standing(t).verb("n", verb, false).hear("n OK x").want("OK", "0/0/0")
		fresh(t).verb("n", verb, false).hear("n BAD x").want("BAD of none", "none")
		fresh(t).verb("n", verb, false).hear("n NO x").want("NO of none", "none")
		fresh(t).verb("n", verb, false).hear("n OK x").want("OK of none", "0/0/0")
	}
}

// A new picture: an answer that cannot follow is not heard, so that it ends nothing.
func TestBeginByNone(t *testing.T) {
	for _, verb := range opening {
		for _, a := range []api.Answer{
			{}, {Kind: api.AnswerBad, Text: "x"}, state("m", api.OutBad), state("m", api.OutOk), state("n", api.OutBye), state("", 0),
			tells(t, "* 1 EXPUNGE"), tells(t, "* 1 FETCH (UID 1)"), {Kind: api.AnswerExists, Num: -1}, {Kind: api.AnswerExists, Num: api.MaxScript + 1},
			{Kind: api.AnswerState, Outcome: api.OutOk, Code: api.CodeNext},
		} {
			standing(t).verb("n", verb, false).refuses(a).want("refused", stands).hear("n BAD x").want("BAD behind it", stands)
			c := standing(t).verb("n", verb, false).refuses(a).hear("* 1 EXISTS").refuses(a).hear("n BAD x").want("BAD behind EXISTS", "none")
			c.refuse("* 1 EXISTS")
		}
	}
}

// A new picture: one SELECT behind another. Each ends what the one ahead of it has brought, by its own first answer alone.
func TestBeginAgain(t *testing.T) {
	c := standing(t).ask("a SELECT x", "b EXAMINE y", "c SELECT z", "d NOOP", "e SELECT w")
	c.hear("* 1 EXISTS", "a OK x").want("the first one", "0/0/0 0?")
	c.hear("b BAD x").want("BAD leaves it", "0/0/0 0?")
	c.refuse("* 1 FETCH (UID 1)", "* 1 EXPUNGE").want("not of the next one", "0/0/0 0?")
	c.hear("* OK [UIDNEXT 5] x").want("the third one begins", "none").hear("c OK x").want("it has no rows", "0/5/0")
	c.hear("* 2 EXISTS", "* 1 FETCH (UID 3)", "d OK x").want("NOOP", "0/5/0 3? 0?")
	c.hear("e NO x").want("NO leaves none", "none")
	c.ask("f NOOP").refuse("* 2 EXISTS", "* 1 FETCH (UID 3)").hear("f OK x").want("none", "none")
}

// A new picture: what a SELECT has told ahead of its BAD is of no picture, neither then nor behind the next SELECT.
func TestBeginBad(t *testing.T) {
	c := standing(t).ask("a SELECT x").hear("* 3 EXISTS", "* OK [UIDVALIDITY 8] x", "* OK [UIDNEXT 9] x", "* OK [HIGHESTMODSEQ 10] x", "a BAD x").want("BAD", "none")
	c.ask("b NOOP").refuse("* 3 EXISTS", "* 5 EXISTS", "* 1 FETCH (UID 3)", "* 1 EXPUNGE").hear("b OK x").want("NOOP", "none")
	c.ask("c SELECT x").hear("c BAD x").want("BAD again", "none")
	c.ask("d SELECT x").hear("d OK x").want("OK", "0/0/0")
}
