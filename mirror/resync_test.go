package mirror_test

import (
	"fmt"
	"slices"
	"strings"
	"testing"

	"postbag/api"
	"postbag/command"
)

// commandText is a command without a tag, as chapter 14 prints it with one.
func commandText(t *testing.T, c api.Command) string {
	t.Helper()
	if c.Tag != "" {
		t.Errorf("P19.6: the tag %q", c.Tag)
	}
	c.Tag = "t"
	text, e := command.Print(c)
	if e != api.OK {
		t.Errorf("P19.6: %+v: %d", c, e)
	}
	return strings.TrimSuffix(strings.TrimPrefix(text, "t "), "\r\n")
}

// wantCommands holds what Resync asks.
func wantCommands(t *testing.T, what string, got []api.Command, want ...string) {
	t.Helper()
	var lines []string
	for _, c := range got {
		lines = append(lines, commandText(t, c))
	}
	if !slices.Equal(lines, want) {
		t.Errorf("P19.6: %s: %q, not %q", what, lines, want)
	}
}

const (
	all  = "FETCH 1:* (UID FLAGS)"
	uids = "FETCH 1:* (UID)"
)

func since(n int) string { return fmt.Sprintf("UID FETCH 1:* (FLAGS) (CHANGEDSINCE %d)", n) }

// sight is what was known at another time: rows as uid and flags in turn; "?" are flags that were not known.
func sight(validity, highest int, rows ...any) api.MirrorSight {
	s := api.MirrorSight{Selected: true, Validity: validity, Next: 99, Highest: highest}
	for i := 0; i < len(rows); i += 2 {
		s.Uids = append(s.Uids, rows[i].(int))
		flags := strings.Fields(rows[i+1].(string))
		s.Known = append(s.Known, !slices.Equal(flags, []string{"?"}))
		s.Flags = append(s.Flags, flags)
	}
	return s
}

// P19.6: what is asked.
func TestResyncAsks(t *testing.T) {
	empty := fresh(t).ask("a SELECT b").hear("* OK [UIDVALIDITY 7] x", "a OK x")
	within := standing(t).ask("a SELECT b").hear("* 2 EXISTS", "* OK [UIDVALIDITY 7] x")
	for _, was := range []api.MirrorSight{{}, sight(7, 5, 9, "a"), {Validity: 7, Highest: 5}} {
		wantCommands(t, "nothing is selected", fresh(t).Resync(was))
		wantCommands(t, "there are no rows", empty.Resync(was))
		wantCommands(t, "within a SELECT", within.Resync(was))
		wantCommands(t, "closed", standing(t).ask("x CLOSE").hear("x OK x").Resync(was))
	}
	for _, highest := range []int{least, -1, 0} {
		wantCommands(t, "without a modseq", standing(t).Resync(sight(7, highest, 9, "a")), all)
		wantCommands(t, "without a modseq, unselected", standing(t).Resync(api.MirrorSight{Validity: 7, Highest: highest}), all)
	}
	for _, validity := range []int{least, -7, 0, 6, 8, most} {
		wantCommands(t, "of another validity", standing(t).Resync(sight(validity, 5, 9, "a")), all)
	}
	for _, highest := range []int{1, 2, 4, 5, 99, api.MaxNumber} {
		wantCommands(t, "of this one", standing(t).Resync(sight(7, highest, 9, "a")), uids, since(highest))
		wantCommands(t, "of this one, unselected, without rows", standing(t).Resync(api.MirrorSight{Validity: 7, Highest: highest}), uids, since(highest))
	}
	c := standing(t).ask("a SELECT b", "b NOOP")
	wantCommands(t, "a SELECT is at hand, and has told nothing", c.Resync(sight(7, 5)), uids, since(5))
	c.want("asking changes nothing", stands)
}

// P19.6: a modseq that no server tells stands in Changed all the same, in decimal digits; a validity that was not told is 0.
func TestResyncOddNumbers(t *testing.T) {
	for _, highest := range []int{api.MaxNumber + 1, most} {
		got := standing(t).Resync(api.MirrorSight{Validity: 7, Highest: highest})
		if len(got) != 2 || got[1].Changed != (api.Text{Is: true, S: fmt.Sprint(highest)}) {
			t.Errorf("P19.6: %d: %+v", highest, got)
		}
	}
	c := fresh(t).ask("a SELECT b").hear("* 1 EXISTS", "a OK x").ask("b NOOP")
	wantCommands(t, "no validity was told", c.Resync(sight(0, 5, 3, "a")), uids, since(5))
	c.hear("* 1 FETCH (UID 3)").want("no validity was told", "0/0/0 3(a)")
}

// P19.6: the commands are just these, and all else of them is zero.
func TestResyncCommands(t *testing.T) {
	fetch := func(kinds ...int) api.Command {
		c := api.Command{Verb: api.VerbFetch, Set: set(1, 0)}
		for _, kind := range kinds {
			c.Items = append(c.Items, api.Item{Kind: kind})
		}
		return c
	}
	if got := standing(t).Resync(api.MirrorSight{}); !same(got, []api.Command{fetch(api.ItemUid, api.ItemFlags)}) {
		t.Errorf("P19.6: %+v", got)
	}
	changed := fetch(api.ItemFlags)
	changed.Uid, changed.Changed = true, api.Text{Is: true, S: "12"}
	if got := standing(t).Resync(sight(7, 12)); !same(got, []api.Command{fetch(api.ItemUid), changed}) {
		t.Errorf("P19.6: %+v", got)
	}
}

// P19.6: what was known is known again with the uid.
func TestResyncRemembers(t *testing.T) {
	was := sight(7, 4, 3, "a b", 9, "stale", 10, `\Recent \recent k k`, 11, "?", 12, "l", 30, "")
	c := standing(t)
	c.Resync(was)
	c.want("nothing was told as yet", stands)
	c.ask("x NOOP").hear("* 7 EXISTS", "* 1 FETCH (UID 3)").want("flags that were not known", `7/20/4 3(a b) 9(\Seen) 0(k) 12? 0? 0? 0?`)
	c.hear("* 2 FETCH (UID 9)", "* 4 FETCH (UID 12)").want("uids that were known", `7/20/4 3(a b) 9(\Seen) 0(k) 12? 0? 0? 0?`)
	c.hear("* 3 FETCH (UID 10)").want("flags that were known", `7/20/4 3(a b) 9(\Seen) 10(k) 12? 0? 0? 0?`)
	c.hear("* 5 FETCH (UID 29)", "* 7 FETCH (UID 31)").want("uids that it has not", `7/20/4 3(a b) 9(\Seen) 10(k) 12? 29? 0? 31?`)
	c.hear("* 6 FETCH (UID 30)").want("known to be none", `7/20/4 3(a b) 9(\Seen) 10(k) 12? 29? 30() 31?`)
	c = standing(t)
	c.Resync(was)
	c.ask("x NOOP").hear("* 3 EXPUNGE", "* 4 EXISTS", "* 3 EXPUNGE", "* 3 FETCH (UID 10)").want("as they stand there", `7/20/4 0? 9(\Seen) 10(\Recent \recent k k)`)
	c.hear("* 4 EXISTS", "* 4 FETCH (UID 11)").want("not known there", `7/20/4 0? 9(\Seen) 10(\Recent \recent k k) 11?`)
}

// P19.6: in one answer flags that are told ahead stay, and those that are told behind count; where the answer cannot follow nothing comes back.
func TestResyncInOneAnswer(t *testing.T) {
	c := standing(t)
	c.Resync(sight(7, 4, 3, "a"))
	c.ask("x NOOP").hear("* 1 FETCH (FLAGS (b) UID 3)").want("ahead", `7/20/4 3(b) 9(\Seen) 0(k) 12?`)
	c = standing(t)
	c.Resync(sight(7, 4, 3, "a", 4, "c"))
	c.ask("x NOOP").refuse("* 1 FETCH (UID 3 UID 4)", "* 1 FETCH (UID 3 MODSEQ 5)", "* 1 FETCH (UID 3 RFC822.SIZE 3 UID 9)").want("refused", stands)
	c.hear("* 1 FETCH (UID 4 FLAGS ())").want("behind", `7/20/4 4() 9(\Seen) 0(k) 12?`)
}

// P19.6: the first place of a uid counts, whatever stands at the second one; what is beyond the end of Known is not known, beyond that of Flags there are none.
func TestResyncLists(t *testing.T) {
	yes := []bool{true, true, true, true}
	for what, c := range map[string]struct {
		was  api.MirrorSight
		want string
	}{
		"twice, both known":           {api.MirrorSight{Uids: []int{3, 3}, Known: yes, Flags: [][]string{{"a"}, {"b"}}}, "3(a)"},
		"twice, the first known":      {api.MirrorSight{Uids: []int{3, 3}, Known: []bool{true, false}, Flags: [][]string{{"a"}, {"b"}}}, "3(a)"},
		"twice, the second known":     {api.MirrorSight{Uids: []int{3, 3}, Known: []bool{false, true}, Flags: [][]string{{"a"}, {"b"}}}, "3?"},
		"thrice, the last known":      {api.MirrorSight{Uids: []int{3, 3, 3}, Known: []bool{false, true, true}, Flags: [][]string{{"a"}, {"b"}, {"c"}}}, "3?"},
		"twice, others between":       {api.MirrorSight{Uids: []int{9, 3, 5, 3}, Known: yes, Flags: [][]string{{"z"}, {"a"}, {"y"}, {"b"}}}, "3(a)"},
		"falling":                     {api.MirrorSight{Uids: []int{9, 5, 3}, Known: yes, Flags: [][]string{{"z"}, {"y"}, {"a"}}}, "3(a)"},
		"Known ends ahead":            {api.MirrorSight{Uids: []int{9, 3}, Known: []bool{true}, Flags: [][]string{{"z"}, {"a"}}}, "3?"},
		"Known ends behind":           {api.MirrorSight{Uids: []int{9, 3}, Known: yes, Flags: [][]string{{"z"}, {"a"}}}, "3(a)"},
		"without Known":               {api.MirrorSight{Uids: []int{3}, Flags: [][]string{{"a"}}}, "3?"},
		"Flags end ahead":             {api.MirrorSight{Uids: []int{9, 3}, Known: yes, Flags: [][]string{{"z"}}}, "3()"},
		"without Flags":               {api.MirrorSight{Uids: []int{3}, Known: yes}, "3()"},
		"Flags go on behind":          {api.MirrorSight{Uids: []int{3}, Known: yes, Flags: [][]string{{"a"}, {"b"}}}, "3(a)"},
		"twice, Flags end at once":    {api.MirrorSight{Uids: []int{3, 3}, Known: yes, Flags: [][]string{nil, {"b"}}}, "3()"},
		"twice, Known ends at once":   {api.MirrorSight{Uids: []int{3, 3}, Known: []bool{true}, Flags: [][]string{{"a"}, {"b"}}}, "3(a)"},
		"without Uids":                {api.MirrorSight{Known: yes, Flags: [][]string{{"a"}}}, "3?"},
		"uids that there are not":     {api.MirrorSight{Uids: []int{0, -3, most, 3}, Known: yes, Flags: [][]string{{"x"}, {"x"}, {"x"}, {"a"}}}, "3(a)"},
		"no uids":                     {api.MirrorSight{Uids: []int{0, -3, most, least}, Known: yes, Flags: [][]string{{"x"}, {"x"}, {"x"}, {"a"}}}, "3?"},
		"flags of any kind":           {api.MirrorSight{Uids: []int{3}, Known: yes, Flags: [][]string{{"", "a", "a", `\RECENT`}}}, `3( a a \RECENT)`},
		"flags, not known":            {api.MirrorSight{Uids: []int{3}, Known: []bool{false}, Flags: [][]string{{"a"}}}, "3?"},
		"Known longer than all":       {api.MirrorSight{Uids: []int{1, 2}, Known: yes, Flags: [][]string{{"x"}, {"y"}, {"a"}}}, "3?"},
		"a list with a nil among its": {api.MirrorSight{Uids: []int{1, 3}, Known: yes, Flags: [][]string{{"x"}, nil}}, "3()"},
	} {
		c.was.Validity, c.was.Highest = 7, 1
		x := standing(t)
		wantCommands(t, what, x.Resync(c.was), uids, since(1))
		x.ask("x NOOP").hear("* 1 FETCH (UID 3)").want("P19.6: "+what, `7/20/4 `+c.want+` 9(\Seen) 0(k) 12?`)
	}
}

// P19.6: until when it is remembered.
func TestResyncForgets(t *testing.T) {
	was := sight(7, 5, 1, "a", 2, "b", 3, "c")
	fetches := func(c *client, what, want string) {
		t.Helper()
		c.ask("z NOOP").hear("* 1 FETCH (UID 3)", "z OK x").want("P19.6: "+what, want)
	}
	known, unknown := `7/20/4 3(c) 9(\Seen) 0(k) 12?`, `7/20/4 3? 9(\Seen) 0(k) 12?`
	for what, c := range map[string]struct {
		do   func(c *client)
		want string
	}{
		"at once":                            {func(c *client) {}, known},
		"commands that are answered":         {func(c *client) { c.ask("a NOOP", "b FETCH 1 UID").hear("a OK x", "b NO x") }, known},
		"a SELECT that is BAD":               {func(c *client) { c.ask("a SELECT b").hear("a BAD x") }, known},
		"a CLOSE that is NO":                 {func(c *client) { c.ask("a CLOSE").hear("a NO x") }, known},
		"what cannot follow":                 {func(c *client) { c.ask("a SELECT b").refuse("* 1 EXPUNGE", "b OK x").hear("a BAD x") }, known},
		"a Sight":                            {func(c *client) { c.Sight() }, known},
		"Resync of nothing":                  {func(c *client) { c.Resync(api.MirrorSight{}) }, unknown},
		"Resync of another validity":         {func(c *client) { c.Resync(sight(8, 5, 3, "c")) }, unknown},
		"Resync without a modseq":            {func(c *client) { c.Resync(sight(7, 0, 3, "c")) }, unknown},
		"Resync of other uids":               {func(c *client) { c.Resync(sight(7, 5, 4, "c")) }, unknown},
		"Resync of other flags":              {func(c *client) { c.Resync(sight(7, 5, 3, "d")) }, `7/20/4 3(d) 9(\Seen) 0(k) 12?`},
		"Resync of another one, and of this": {func(c *client) { c.Resync(sight(8, 5)); c.Resync(was) }, known},
	} {
		x := standing(t)
		x.Resync(was)
		c.do(x)
		fetches(x, what, c.want)
	}
	empty := standing(t)
	empty.Resync(was)
	empty.ask("a NOOP").hear("* 1 EXPUNGE", "* 1 EXPUNGE", "* 1 EXPUNGE", "* 1 EXPUNGE")
	wantCommands(t, "of no rows", empty.Resync(was))
	empty.hear("* 1 EXISTS", "a OK x")
	fetches(empty, "Resync of no rows has forgotten it", "7/20/4 3?")
}

// P19.6: a new picture forgets it, though it has the same validity; no picture does, too.
func TestResyncForgetsWithThePicture(t *testing.T) {
	was := sight(7, 5, 1, "a", 2, "b", 3, "c")
	for what, lines := range map[string][]string{
		"a new picture":                {"* 1 EXISTS", "* OK [UIDVALIDITY 7] x", "n OK x"},
		"a new picture, told first OK": {"n OK x"},
		"NO":                           {"n NO x"},
		"BAD behind something":         {"* 1 RECENT", "n BAD x"},
		"BYE":                          {"* BYE x", "n BAD x"},
	} {
		c := standing(t)
		c.Resync(was)
		c.ask("n SELECT b").hear(lines...)
		again := c.ask("o SELECT b").hear("* 1 EXISTS", "* OK [UIDVALIDITY 7] x", "o OK x").ask("p NOOP").hear("* 1 FETCH (UID 3)", "p OK x")
		again.want("P19.6: "+what, "7/0/0 3?")
	}
	c := standing(t)
	c.Resync(was)
	c.ask("n EXAMINE b").hear("* 1 EXISTS", "* OK [UIDVALIDITY 7] x", "n OK x").ask("p NOOP").hear("* 1 FETCH (UID 3)", "p OK x").want("P19.6: at once", "7/0/0 3?")
	for _, line := range []string{"n CLOSE", "n UNSELECT", "n LOGOUT"} {
		c := standing(t)
		c.Resync(was)
		c.ask(line).hear("n OK x").ask("o SELECT b").hear("* 1 EXISTS", "o OK x").ask("p NOOP").hear("* 1 FETCH (UID 3)").want("P19.6: "+line, "0/0/0 3?")
	}
}

// P19.6: a uid that comes to be known once more (the row that had it is no more) brings its flags once more; one that a silent STORE made unknown does not.
func TestResyncOnceMore(t *testing.T) {
	c := standing(t)
	c.Resync(sight(7, 5, 3, "c", 9, "n"))
	c.ask("a NOOP").hear("* 1 FETCH (UID 3)", "* 1 FETCH (FLAGS (d))", "* 1 EXPUNGE", "* 1 EXPUNGE", "* 1 FETCH (FLAGS ())", "* 1 EXPUNGE", "* 1 EXPUNGE", "* 2 EXISTS", "* 1 FETCH (UID 3)").want("once more", "7/20/4 3(c) 0?")
	c.hear("* 2 FETCH (UID 9)", "a OK x").want("the other one", "7/20/4 3(c) 9(n)")
	c.ask("b UID STORE 3 FLAGS.SILENT ()").hear("b OK x").want("turned silently", "7/20/4 3? 9(n)")
	c.ask("c NOOP").hear("* 1 FETCH (UID 3)", "* 2 FETCH (UID 9)", "c OK x").want("told its uid again", "7/20/4 3? 9(n)")
}

// P19.6: what is remembered of a uid comes with it, though the row was turned silently while its uid was not known.
func TestResyncBehindSilent(t *testing.T) {
	for text, want := range map[string]string{
		"a STORE 1 FLAGS.SILENT ()":     `7/20/4 3(c) 9(\Seen) 0(k) 12?`,
		"a UID STORE 3 FLAGS.SILENT ()": `7/20/4 3(c) 9(\Seen) 0? 12?`,
	} {
		c := standing(t)
		c.Resync(sight(7, 5, 3, "c"))
		c.ask(text).hear("a OK x").ask("b NOOP").hear("* 1 FETCH (UID 3)", "b OK x").want("P19.6: "+text, want)
	}
}

// P19.6: a client that comes back knows again what has not changed, and learns what has.
func TestResyncComesBack(t *testing.T) {
	was := standing(t).ask("a NOOP").hear("* 1 FETCH (UID 3 FLAGS (x))", "* 3 FETCH (UID 10)", "* 4 FETCH (FLAGS (y) MODSEQ (6))", "a OK x").Sight()
	c := fresh(t).ask("s SELECT b").hear("* 4 EXISTS", "* OK [UIDVALIDITY 7] x", "* OK [HIGHESTMODSEQ 8] x", "s OK x")
	wantCommands(t, "back", c.Resync(was), uids, since(6))
	c.ask("a FETCH 1:* (UID)", "b UID FETCH 1:* (FLAGS) (CHANGEDSINCE 6)")
	c.hear("* 1 FETCH (UID 3)", "* 2 FETCH (UID 10)", "* 3 FETCH (UID 12)", "* 4 FETCH (UID 15)", "a OK x").want("the uids", "7/0/8 3(x) 10(k) 12(y) 15?")
	c.hear("* 2 FETCH (UID 10 FLAGS (k l) MODSEQ (8))", "* 4 FETCH (UID 15 FLAGS () MODSEQ (7))", "b OK x").want("what has changed", "7/0/8 3(x) 10(k l) 12(y) 15()")
}
