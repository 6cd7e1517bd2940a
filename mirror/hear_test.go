package mirror_test

import (
	"slices"
	"testing"

	"postbag/api"
)

// P19.2: kinds that there are not, AnswerBad, and outcomes that there are not: wherever they come.
func TestHearNever(t *testing.T) {
	full := tells(t, `* 1 FETCH (UID 1 FLAGS ())`)
	for _, m := range moments() {
		for _, kind := range slices.Concat(edges[:5], edges[7:], []int{api.AnswerBad, 19, 20, 256 + api.AnswerRecent, -api.AnswerRecent}) {
			m.wantRefused(t, api.Answer{Kind: kind, Text: "x"})
			m.wantRefused(t, api.Answer{Kind: kind, Tag: "x", Outcome: api.OutOk, Num: 1})
			full.Kind = kind
			m.wantRefused(t, full)
		}
		for _, outcome := range slices.Concat(edges[:5], edges[7:], []int{5, 6, -api.OutOk}) {
			for _, tag := range []string{"", "x", "y"} {
				m.wantRefused(t, state(tag, outcome))
				m.wantRefused(t, api.Answer{Kind: api.AnswerState, Tag: tag, Outcome: outcome, Code: api.CodeNext, Args: []api.Value{number(5)}})
			}
		}
	}
}

// P19.2: kinds of which nothing is said say nothing, whatever stands in them.
func TestHearMute(t *testing.T) {
	for _, kind := range []int{api.AnswerContinue, api.AnswerCapability, api.AnswerFlags, api.AnswerList, api.AnswerLsub, api.AnswerSearch, api.AnswerSort, api.AnswerThread, api.AnswerStatus, api.AnswerRecent, api.AnswerEsearch, api.AnswerEnabled, api.AnswerNamespace} {
		full := api.Answer{Kind: kind, Tag: "x", Outcome: api.OutBad, Code: api.CodeNext, Args: []api.Value{{}}, Text: "x", Num: -1, Name: "a", Nums: []int{1}, Flags: []string{"k"}, Data: []api.Datum{datum("UID", number(0))}, Twigs: []api.Twig{{Uid: 1}}, Set: set(1, 0), Pairs: []api.Value{atom("UIDNEXT"), number(5)}, Uid: true, Modseq: 99}
		for _, m := range moments() {
			m.wantMute(t, api.Answer{Kind: kind})
			m.wantMute(t, full)
		}
	}
}

// P19.2: a tagged answer is that of the command at hand; never BYE.
func TestHearTagged(t *testing.T) {
	for _, m := range moments() {
		for _, outcome := range []int{api.OutOk, api.OutNo, api.OutBad, api.OutBye} {
			for _, tag := range []string{"y", "s", "f", "X", "x ", " x", "xx", "*"} {
				m.wantRefused(t, state(tag, outcome))
			}
			if m.atHand == 0 || outcome == api.OutBye {
				m.wantRefused(t, state("x", outcome))
				continue
			}
			c := m.wantTaken(t, state("x", outcome))
			c.refuses(state("x", outcome))
		}
	}
}

// P19.2: a code says nothing with a tagged answer, and need not have a number there.
func TestHearTaggedCodes(t *testing.T) {
	for _, code := range []int{api.CodeValidity, api.CodeNext, api.CodeModseq} {
		for _, outcome := range outcomes {
			for _, args := range [][]api.Value{nil, {number(99)}, {atom("x")}} {
				a := state("x", outcome)
				a.Code, a.Args = code, args
				standing(t).ask("x NOOP").told(a).want("behind NOOP", stands)
				c := fresh(t).ask("x SELECT a").hear("* 1 EXISTS").told(a)
				if outcome == api.OutOk {
					c.want("behind SELECT", "0/0/0 0?")
				} else {
					c.want("behind SELECT", "none")
				}
			}
		}
	}
}

// P19.2: BYE ends the picture, whatever is at hand; what waits for its answer goes on waiting.
func TestHearBye(t *testing.T) {
	for _, m := range moments() {
		c := m.wantTaken(t, state("", api.OutBye)).want("P19.2: BYE: "+m.name, "none")
		c.refuse("* 1 FETCH (UID 1)", "* 1 EXPUNGE", "y OK x")
		if !m.opens() {
			c.refuse("* 5 EXISTS")
		}
		if m.atHand != 0 {
			c.hear("x BAD x").want("P19.2: behind BYE: "+m.name, "none").hear("y BAD x")
		}
		c.want("P19.2: behind BYE: "+m.name, "none").refuse("* 5 EXISTS")
	}
	c := fresh(t).ask("a SELECT b").hear("* 3 EXISTS", "* OK [UIDVALIDITY 9] x", "* BYE x", "a OK x").want("within SELECT", "0/0/0")
	c.ask("b SELECT b").hear("* BYE x", "* 3 EXISTS", "* OK [UIDVALIDITY 9] x", "b OK x").want("ahead of what SELECT tells", "9/0/0 0? 0? 0?")
	a := state("", api.OutBye)
	a.Code, a.Args = api.CodeNext, nil
	c.told(a).want("with a code without a number", "none")
}

// P19.2: NO and BAD without a tag say nothing, whatever their code.
func TestHearUntagged(t *testing.T) {
	for _, m := range moments() {
		for _, outcome := range []int{api.OutNo, api.OutBad} {
			for _, code := range []int{0, api.CodeValidity, api.CodeNext, api.CodeModseq, api.CodeClosed, 99} {
				for _, args := range [][]api.Value{nil, {number(5)}, {number(-1)}} {
					m.wantMute(t, api.Answer{Kind: api.AnswerState, Outcome: outcome, Code: code, Args: args})
				}
			}
		}
	}
}

// P19.2: an OK with a code that is not named says nothing.
func TestHearOtherCodes(t *testing.T) {
	for _, m := range moments() {
		for _, code := range slices.Concat(edges[:5], []int{0, api.CodeUnseen, api.CodePermanent, api.CodeAppend, api.CodeCopy, api.CodeReadWrite, api.CodeClosed, api.CodeIssued, 24, 256 + api.CodeNext}, edges[7:]) {
			m.wantMute(t, api.Answer{Kind: api.AnswerState, Outcome: api.OutOk, Code: code})
			m.wantMute(t, api.Answer{Kind: api.AnswerState, Outcome: api.OutOk, Code: code, Args: []api.Value{number(5)}})
		}
	}
}

// P19.2: a code that is named has a number from 0 to MaxNumber first, whatever is at hand.
func TestHearCodesWithoutNumbers(t *testing.T) {
	bad := [][]api.Value{nil, {}, {{}}, {atom("5")}, {{Kind: api.ValueString, Text: "5", Num: 5}}, {values(number(5))}, {values()}, {atom("5"), number(5)}, {{}, number(5)}, {{Kind: 5, Num: 5}}, {{Kind: -1, Num: 5}}}
	for _, n := range slices.Concat(edges[:4], edges[11:]) {
		bad = append(bad, []api.Value{number(n)}, []api.Value{number(n), number(5)})
	}
	for _, m := range moments() {
		for _, code := range []int{api.CodeValidity, api.CodeNext, api.CodeModseq} {
			for _, args := range bad {
				m.wantRefused(t, api.Answer{Kind: api.AnswerState, Outcome: api.OutOk, Code: code, Args: args})
			}
		}
	}
}

// P19.2: a code with a number tells of the mailbox that is being selected, else nothing.
func TestHearCodes(t *testing.T) {
	wants := map[int]func(n string) string{
		api.CodeValidity: func(n string) string { return n + "/0/0" },
		api.CodeNext:     func(n string) string { return "0/" + n + "/0" },
		api.CodeModseq:   func(n string) string { return "0/0/" + n },
	}
	for _, m := range moments() {
		for code, want := range wants {
			for n, text := range map[int]string{0: "0", 1: "1", 7: "7", api.MaxNumber - 1: "4294967294", api.MaxNumber: "4294967295"} {
				for _, args := range [][]api.Value{{number(n)}, {number(n), number(3)}, {number(n), {}}, {{Kind: api.ValueNumber, Num: n, Text: "x", Kids: []api.Value{{}}}}} {
					a := api.Answer{Kind: api.AnswerState, Outcome: api.OutOk, Code: code, Args: args}
					if !m.opens() {
						m.wantMute(t, a)
					} else if !m.within {
						m.wantTaken(t, a).told(state("x", api.OutOk)).want("P19.2: "+m.name, want(text))
					}
				}
			}
		}
	}
	c := fresh(t).ask("a SELECT b").hear("* OK [UIDVALIDITY 7] x", "* OK [UIDNEXT 8] x", "* OK [HIGHESTMODSEQ 9] x", "* 1 EXISTS", "* OK [UIDNEXT 3] x", "* OK [HIGHESTMODSEQ 2] x", "a OK x")
	c.want("the last ones count", "7/3/2 0?")
	c.ask("b NOOP").hear("* OK [UIDVALIDITY 17] x", "* OK [UIDNEXT 18] x", "* OK [HIGHESTMODSEQ 19] x", "b OK x").want("behind it none counts", "7/3/2 0?")
	c.hear("* OK [UIDVALIDITY 17] x", "* OK [UIDNEXT 18] x", "* OK [HIGHESTMODSEQ 19] x").want("without a command none counts", "7/3/2 0?")
}

// P19.2: how many there are.
func TestHearExists(t *testing.T) {
	for _, m := range moments() {
		for _, n := range slices.Concat(edges, []int{3, 4, 5, 9}) {
			a := api.Answer{Kind: api.AnswerExists, Num: n}
			isTaken := m.atHand != 0 && m.selected && n >= 4
			if m.opens() {
				isTaken = n >= 0
			}
			if !isTaken || n > api.MaxScript {
				m.wantRefused(t, a)
				continue
			}
			c := m.wantTaken(t, a)
			if m.opens() {
				c.want("P19.2: "+m.name, "none").told(state("x", api.OutOk))
			}
			uids := c.Sight().Uids
			if len(uids) != n || slices.Max(append(uids, 0)) != map[bool]int{true: 0, false: 12}[m.opens()] {
				t.Errorf("P19.2: %s: %d EXISTS: %d rows", m.name, n, len(uids))
			}
		}
	}
	c := standing(t).ask("a NOOP").hear("* 4 EXISTS").want("as many", stands).hear("* 6 EXISTS").want("two more", stands+" 0? 0?")
	c.refuse("* 5 EXISTS").hear("* 6 EXISTS", "a OK x").want("as many", stands+" 0? 0?")
	c.ask("b SELECT c").hear("* 6 EXISTS", "* 0 EXISTS", "* 2 EXISTS", "* 1 EXISTS", "b OK x").want("the last one counts", "0/0/0 0?")
}

// P19.2: with or without MaxScript rows, one more is one too many.
func TestHearExistsBound(t *testing.T) {
	c := fresh(t).ask("a SELECT b").told(api.Answer{Kind: api.AnswerExists, Num: api.MaxScript - 1}).hear("a OK x").ask("b NOOP", "c NOOP")
	over := api.Answer{Kind: api.AnswerExists, Num: api.MaxScript + 1}
	if e := c.Hear(over); e != api.ErrMirror || len(c.Sight().Uids) != api.MaxScript-1 {
		t.Errorf("P19.2: %d", e)
	}
	c.told(api.Answer{Kind: api.AnswerExists, Num: api.MaxScript})
	if e := c.Hear(over); e != api.ErrMirror || len(c.Sight().Uids) != api.MaxScript {
		t.Errorf("P19.2: %d", e)
	}
	c.told(fetched(api.MaxScript, datum("UID", number(api.MaxNumber))), fetched(1, datum("UID", number(1))))
	s := c.Sight()
	if s.Uids[0] != 1 || s.Uids[api.MaxScript-1] != api.MaxNumber || slices.Max(s.Uids[1:api.MaxScript-1]) != 0 {
		t.Errorf("P19.4: %d %d", s.Uids[0], s.Uids[api.MaxScript-1])
	}
	c.told(api.Answer{Kind: api.AnswerExpunge, Num: api.MaxScript})
	if len(c.Sight().Uids) != api.MaxScript-1 || c.Hear(fetched(api.MaxScript)) != api.ErrMirror {
		t.Errorf("P19.2: %d", len(c.Sight().Uids))
	}
}

// P19.2: which row is no more, and behind which commands none may go.
func TestHearExpunge(t *testing.T) {
	keeps := []int{api.VerbFetch, api.VerbStore, api.VerbSearch, api.VerbSort, api.VerbThread}
	wants := map[int]string{1: `7/20/4 9(\Seen) 0(k) 12?`, 2: `7/20/4 0? 0(k) 12?`, 3: `7/20/4 0? 9(\Seen) 12?`, 4: `7/20/4 0? 9(\Seen) 0(k)`}
	for _, m := range moments() {
		mayGo := m.atHand != 0 && m.selected && !m.opens() && (m.uid || !slices.Contains(keeps, m.atHand))
		for _, n := range slices.Concat(edges, []int{3, 4, 5}) {
			a := api.Answer{Kind: api.AnswerExpunge, Num: n}
			if want, is := wants[n]; is && mayGo {
				m.wantTaken(t, a).want("P19.2: "+m.name, want)
			} else {
				m.wantRefused(t, a)
			}
		}
	}
	c := standing(t).ask("a NOOP").hear("* 4 EXPUNGE").refuse("* 4 EXPUNGE").hear("* 1 EXPUNGE", "* 1 EXPUNGE", "* 1 EXPUNGE").want("all", "7/20/4")
	c.refuse("* 1 EXPUNGE").hear("* 1 EXISTS").want("a new one", "7/20/4 0?")
}

// P19.2: of which rows something may be told, and when.
func TestHearFetch(t *testing.T) {
	wants := map[int]string{1: `7/20/4 0(x) 9(\Seen) 0(k) 12?`, 2: `7/20/4 0? 9(x) 0(k) 12?`, 3: `7/20/4 0? 9(\Seen) 0(x) 12?`, 4: `7/20/4 0? 9(\Seen) 0(k) 12(x)`}
	for _, m := range moments() {
		mayTell := m.atHand != 0 && m.selected && !m.opens()
		for _, n := range slices.Concat(edges, []int{3, 4, 5}) {
			if want, is := wants[n]; is && mayTell {
				m.wantTaken(t, fetched(n, datum("FLAGS", flagList("x")))).want("P19.2: "+m.name, want)
				m.wantMute(t, fetched(n))
				m.wantRefused(t, fetched(n, datum("FLAGS", atom("x"))))
			} else {
				m.wantRefused(t, fetched(n, datum("FLAGS", flagList("x"))))
				m.wantRefused(t, fetched(n))
			}
		}
	}
}
