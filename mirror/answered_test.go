package mirror_test

import (
	"fmt"
	"slices"
	"testing"

	"postbag/api"
)

// P19.3: every verb with each outcome, by number and by uid; where a mailbox is selected and where none is.
func TestAnsweredVerbs(t *testing.T) {
	leaves := []int{api.VerbClose, api.VerbUnselect, api.VerbLogout}
	for verb := first; verb <= last; verb++ {
		for _, outcome := range outcomes {
			for _, uid := range []bool{false, true} {
				want, wantOfNone := stands, "none"
				switch opens := slices.Contains(opening, verb); {
				case opens && outcome == api.OutOk:
					want, wantOfNone = "0/0/0", "0/0/0"
				case opens && outcome == api.OutNo, slices.Contains(leaves, verb) && outcome == api.OutOk:
					want = "none"
				}
				what := fmt.Sprintf("P19.3: the verb %d, %d", verb, outcome)
				standing(t).verb("x", verb, uid).told(state("x", outcome)).want(what, want)
				fresh(t).verb("x", verb, uid).told(state("x", outcome)).want(what, wantOfNone)
			}
		}
	}
}

// P19.3: CLOSE, UNSELECT and LOGOUT leave nothing that the next SELECT could find.
func TestAnsweredLeaves(t *testing.T) {
	for _, verb := range []int{api.VerbClose, api.VerbUnselect, api.VerbLogout} {
		c := standing(t).verb("x", verb, false).hear("x OK x")
		c.ask("y NOOP").refuse("* 4 EXISTS", "* 1 EXPUNGE", "* 1 FETCH (UID 1)").hear("y OK x").ask("z SELECT a").hear("z BAD x").want("behind BAD", "none")
		c.ask("z SELECT a").hear("z OK x").want("a new one", "0/0/0")
	}
}

// row of silent STOREs over seven rows: uids 0 3 0 5 9 0 12, all of whose flags are known.
func silenced(t *testing.T, c api.Command, outcome int) string {
	t.Helper()
	x := fresh(t).ask("s SELECT a").hear("* 7 EXISTS", "s OK x").ask("f NOOP")
	for i, uid := range []int{0, 3, 0, 5, 9, 0, 12} {
		data := []api.Datum{datum("FLAGS", flagList(fmt.Sprint("k", i+1)))}
		if uid > 0 {
			data = append(data, datum("UID", number(uid)))
		}
		x.told(fetched(i+1, data...))
	}
	x.hear("f OK x")
	was := x.Sight()
	x.take(c).told(state("x", outcome))
	unknown := ""
	for i, known := range x.Sight().Known {
		if !known {
			unknown += fmt.Sprint(i + 1)
			was.Flags[i], was.Known[i] = nil, false
		}
	}
	if !same(was, x.Sight()) {
		t.Errorf("P19.3: %+v: more than flags: %+v, not %+v", c, x.Sight(), was)
	}
	return unknown
}

// P19.3: of which rows a silent STORE takes the flags.
func TestAnsweredSilent(t *testing.T) {
	for _, c := range []struct {
		set          []api.Range
		byNum, byUid string // the numbers of the rows that are not known any more
	}{
		{nil, "", "136"},
		{set(1, 1), "1", "136"},
		{set(2, 2), "2", "136"},
		{set(3, 3), "3", "1236"},
		{set(5, 5), "5", "1346"},
		{set(7, 7), "7", "136"},
		{set(2, 4), "234", "1236"},
		{set(4, 2), "234", "1236"},
		{set(3, 12), "34567", "1234567"},
		{set(12, 3), "34567", "1234567"},
		{set(6, 8), "67", "136"},
		{set(8, 8), "", "136"},
		{set(9, 9), "", "1356"},
		{set(1, 1, 7, 7, 9, 9), "17", "1356"},
		{set(2, 2, 5, 5, 12, 12), "25", "13467"},
		{set(1, api.MaxNumber), "1234567", "1234567"},
		{set(api.MaxNumber, 5), "567", "134567"},
		{set(5, api.MaxNumber), "567", "134567"},
		{set(5, api.MaxNumber+1), "", "136"},
		{set(-1, 5), "", "136"},
		{set(-1, 5, 2, 2), "2", "136"},
		{set(least, most), "", "136"},
		{set(most, most), "", "136"},
		{set(0, 0), "1234567", "1234567"},
		{set(1, 0), "1234567", "1234567"},
		{set(0, 1), "1234567", "1234567"},
		{set(0, 99), "1234567", "1234567"},
		{set(99, 0), "1234567", "1234567"},
		{set(2, 2, 0, 0), "1234567", "1234567"},
		{set(0, 12, 2, 2), "1234567", "1234567"},
		{set(2, 2, 3, 0, 4, 4), "1234567", "1234567"},
		{set(0, -1), "1234567", "1234567"},
		{set(most, 0), "1234567", "1234567"},
	} {
		for _, uid := range []bool{false, true} {
			x := api.Command{Tag: "x", Verb: api.VerbStore, Set: c.set, Silent: true, Uid: uid}
			want := c.byNum
			if uid {
				want = c.byUid
			}
			if got := silenced(t, x, api.OutOk); got != want {
				t.Errorf("P19.3: silent, uid %v, %v: %q, not %q", uid, c.set, got, want)
			}
			for _, outcome := range []int{api.OutNo, api.OutBad} {
				if got := silenced(t, x, outcome); got != "" {
					t.Errorf("P19.3: silent, uid %v, %v, the outcome %d: %q", uid, c.set, outcome, got)
				}
			}
			for _, mode := range []int{0, 1, -1} {
				loud := x
				loud.Silent, loud.Mode, loud.Flags = false, mode, []string{"k"}
				if got := silenced(t, loud, api.OutOk); got != "" {
					t.Errorf("P19.3: not silent, uid %v, %v: %q", uid, c.set, got)
				}
			}
			for _, verb := range []int{api.VerbFetch, api.VerbCopy, api.VerbMove, api.VerbExpunge, api.VerbNoop, api.VerbSearch} {
				other := x
				other.Verb = verb
				if got := silenced(t, other, api.OutOk); got != "" {
					t.Errorf("P19.3: the verb %d, uid %v, %v: %q", verb, uid, c.set, got)
				}
			}
		}
	}
}

// P19.3: a silent STORE means the rows as they are when it is answered.
func TestAnsweredSilentRows(t *testing.T) {
	c := standing(t).ask("a UID STORE 9 FLAGS.SILENT ()").hear("* 1 EXPUNGE", "* 2 FETCH (UID 10)", "* 4 EXISTS", "* 4 FETCH (UID 30 FLAGS (a))")
	c.want("ahead of its answer", `7/20/4 9(\Seen) 10(k) 12? 30(a)`).hear("a OK x").want("behind it", "7/20/4 9? 10(k) 12? 30(a)")
	c = standing(t).ask("b STORE 3:5 FLAGS.SILENT ()").hear("* 5 EXISTS", "* 5 FETCH (FLAGS (b))", "b OK x").want("by numbers", `7/20/4 0? 9(\Seen) 0? 12? 0?`)
	c.ask("c NOOP").hear("* 3 FETCH (FLAGS (c))", "c OK x").want("told again", `7/20/4 0? 9(\Seen) 0(c) 12? 0?`)
	c.ask("d STORE 1 FLAGS.SILENT ()", "e STORE 2 FLAGS.SILENT ()").hear("d OK x").want("the first of two", `7/20/4 0? 9(\Seen) 0(c) 12? 0?`).hear("e OK x").want("both", "7/20/4 0? 9? 0(c) 12? 0?")
}

// P19.3: a silent STORE where nothing is selected, or a SELECT stands ahead of it.
func TestAnsweredSilentElsewhere(t *testing.T) {
	fresh(t).ask("a STORE 1:* FLAGS.SILENT ()").hear("a OK x").want("nothing is selected", "none")
	c := standing(t).ask("a SELECT b", "b STORE 1:* FLAGS.SILENT ()").hear("* 2 EXISTS", "a OK x").want("ahead of it", "0/0/0 0? 0?").hear("* 1 FETCH (FLAGS (x))", "b OK x").want("behind it", "0/0/0 0? 0?")
	c.ask("c STORE 1:* FLAGS.SILENT ()", "d SELECT b").hear("* 2 FETCH (UID 4 FLAGS (x))", "c OK [MODIFIED 2] x").want("with a code", "0/0/0 0? 4?")
}
