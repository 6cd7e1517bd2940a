package mirror_test

import (
	"testing"

	"postbag/api"
)

// The chapter's table of examples.
func TestExamples(t *testing.T) {
	c := fresh(t)
	c.refuse("* 3 EXISTS", "a1 OK x")
	if e := c.Ask(api.Command{Verb: api.VerbNoop}); e != api.ErrMirror {
		t.Errorf("P19.1: %d", e)
	}
	c.ask("a1 SELECT inbox").hear("* 2 EXISTS", "* OK [UIDVALIDITY 7] x").want("not selected as yet", "none")
	c.refuse("* 1 FETCH (UID 5)")
	c.hear("a1 OK [READ-WRITE] x").want("selected", "7/0/0 0? 0?")
	c.refuse("* 3 EXISTS")
	c.ask("a2 FETCH 1:* FLAGS").hear(`* 2 FETCH (UID 9 FLAGS (\Seen \Recent))`).want("told", `7/0/0 0? 9(\Seen)`)
	c.refuse("* 1 FETCH (UID 9)", "* 1 EXPUNGE", "* 1 EXISTS", "* 3 FETCH (UID 10)")
	c.hear("* 3 EXISTS", "a2 OK x").want("one more", `7/0/0 0? 9(\Seen) 0?`)
	c.ask("a3 NOOP").hear("* 1 EXPUNGE", "a3 OK x").want("one less", `7/0/0 9(\Seen) 0?`)
	c.ask("a4 STORE 2 FLAGS.SILENT ()").hear("a4 OK x").ask("a5 STORE 1 FLAGS.SILENT ()").hear("a5 NO x").want("silent", `7/0/0 9(\Seen) 0?`)
	wantCommands(t, "of nothing", c.Resync(api.MirrorSight{}), "FETCH 1:* (UID FLAGS)")
	wantCommands(t, "of the same", c.Resync(api.MirrorSight{Validity: 7, Highest: 4}), "FETCH 1:* (UID)", "UID FETCH 1:* (FLAGS) (CHANGEDSINCE 4)")
	c.ask("a6 SELECT inbox").hear("a6 BAD x").want("BAD", `7/0/0 9(\Seen) 0?`)
	c.ask("a7 SELECT inbox").hear("* OK [CLOSED] x").want("CLOSED", "none")
}
