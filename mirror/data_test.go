package mirror_test

import (
	"fmt"
	"slices"
	"testing"

	"postbag/api"
)

// P19.4: values that no uid, no flags, no modseq has: wherever they stand, and whatever was right ahead of them.
func TestDataRefused(t *testing.T) {
	wrong := map[string][]api.Value{
		"UID":    {{}, atom("10"), {Kind: api.ValueString, Text: "10", Num: 10}, values(number(10)), values(), {Kind: 5, Num: 10}, {Kind: -1, Num: 10}},
		"FLAGS":  {{}, atom("k"), number(1), {Kind: api.ValueString, Text: "()"}, values(number(1)), values(atom("k"), number(1)), values(api.Value{}), values(values()), values(flagList("k")), values(api.Value{Kind: api.ValueString, Text: "k"}), values(atom("a"), api.Value{Kind: 9}, atom("b")), {Kind: 5, Kids: flagList("k").Kids}},
		"MODSEQ": {{}, number(5), atom("5"), {Kind: api.ValueString, Text: "5"}, values(), values(number(5), number(5)), values(number(5), api.Value{}), values(atom("5")), values(values(number(5))), values(api.Value{}), {Kind: api.ValueAtom, Kids: []api.Value{number(5)}}},
	}
	for _, n := range slices.Concat(edges[:4], edges[11:]) {
		wrong["UID"] = append(wrong["UID"], number(n))
		wrong["MODSEQ"] = append(wrong["MODSEQ"], values(number(n)))
	}
	wrong["UID"] = append(wrong["UID"], number(0))
	right := []api.Datum{datum("UID", number(3)), datum("FLAGS", flagList("new")), datum("MODSEQ", values(number(99))), datum("BODY[]", api.Value{})}
	at := moment{"NOOP at hand", func(t *testing.T) *client { return standing(t).ask("x NOOP", "y NOOP") }, api.VerbNoop, false, true, false}
	for name, list := range wrong {
		for _, v := range list {
			bad := datum(name, v)
			for n := 1; n <= 4; n++ {
				at.wantRefused(t, fetched(n, bad))
			}
			at.wantRefused(t, fetched(1, slices.Concat(right, []api.Datum{bad})...))
			at.wantRefused(t, fetched(1, slices.Concat([]api.Datum{bad}, right)...))
			at.wantRefused(t, fetched(1, slices.Concat(right[:2], []api.Datum{bad}, right[2:])...))
		}
	}
	at.wantTaken(t, fetched(1, right...)).want("P19.4: all are right", `7/20/99 3(new) 9(\Seen) 0(k) 12?`)
}

// P19.4: which uids a row may have.
func TestDataUid(t *testing.T) {
	for n, c := range map[int]struct{ taken, refused []int }{
		1: {[]int{1, 2, 7, 8}, []int{0, 9, 10, 11, 12, 13, api.MaxNumber}},
		2: {[]int{9}, []int{1, 8, 10, 11, 12, 13, api.MaxNumber}},
		3: {[]int{10, 11}, []int{1, 8, 9, 12, 13, api.MaxNumber}},
		4: {[]int{12}, []int{1, 9, 10, 11, 13, api.MaxNumber}},
		5: {[]int{13, 14, 5000, api.MaxNumber - 1, api.MaxNumber}, []int{1, 8, 9, 10, 11, 12, api.MaxNumber + 1}},
		6: {[]int{13, 14, 5000, api.MaxNumber - 1, api.MaxNumber}, []int{1, 8, 9, 10, 11, 12, api.MaxNumber + 1}},
	} {
		at := moment{"a NOOP at hand", func(t *testing.T) *client { return standing(t).ask("x NOOP").hear("* 6 EXISTS") }, api.VerbNoop, false, true, false}
		for _, uid := range c.taken {
			x := at.wantTaken(t, fetched(n, datum("UID", number(uid))))
			want := []int{0, 9, 0, 12, 0, 0}
			want[n-1] = uid
			if got := x.Sight().Uids; !slices.Equal(got, want) {
				t.Errorf("P19.4: %d is %d: %v", n, uid, got)
			}
			x.want("P19.4: flags stay", fmt.Sprintf(`7/20/4 %d? %d(\Seen) %d(k) %d? %d? %d?`, want[0], want[1], want[2], want[3], want[4], want[5]))
		}
		for _, uid := range c.refused {
			at.wantRefused(t, fetched(n, datum("UID", number(uid))))
		}
	}
}

// P19.4: all rows on both sides speak, not the neighbours alone; those whose uids are not known, and rows that are no more, say nothing.
func TestDataUidBetween(t *testing.T) {
	c := fresh(t).ask("a SELECT b").hear("* 7 EXISTS", "a OK x").ask("b NOOP").hear("* 1 FETCH (UID 10)", "* 7 FETCH (UID 20)")
	for n := 2; n <= 6; n++ {
		for _, uid := range []int{1, 9, 10, 20, 21} {
			c.refuse(fmt.Sprintf("* %d FETCH (UID %d)", n, uid))
		}
	}
	c.hear("* 4 FETCH (UID 15)").refuse("* 3 FETCH (UID 15)", "* 3 FETCH (UID 16)", "* 2 FETCH (UID 15)", "* 5 FETCH (UID 15)", "* 6 FETCH (UID 14)", "* 6 FETCH (UID 20)")
	c.hear("* 6 FETCH (UID 16)").refuse("* 5 FETCH (UID 15)", "* 5 FETCH (UID 16)", "* 5 FETCH (UID 17)")
	c.hear("* 4 EXPUNGE", "* 4 FETCH (UID 15)").want("the row that had it is no more", "0/0/0 10? 0? 0? 15? 16? 20?")
	c.hear("* 1 EXPUNGE", "* 1 FETCH (UID 1)", "* 6 EXISTS").refuse("* 6 FETCH (UID 20)").hear("* 5 EXPUNGE", "* 5 FETCH (UID 17)").want("the ends are free", "0/0/0 1? 0? 15? 16? 17?")
	c.hear("* 3 FETCH (UID 15)", "* 3 FETCH (UID 15 UID 15)").refuse("* 3 FETCH (UID 14)", "* 3 FETCH (UID 16)")
}

// P19.4: flags as they stand, but \Recent in any case; the last ones count.
func TestDataFlags(t *testing.T) {
	for _, c := range []struct{ given, want []string }{
		{nil, nil},
		{[]string{`\Seen`}, []string{`\Seen`}},
		{[]string{`\Recent`}, nil},
		{[]string{`\recent`, `\RECENT`, `\rEcEnT`}, nil},
		{[]string{"b", `\Recent`, "a", `\RECENT`, "B"}, []string{"b", "a", "B"}},
		{[]string{"Recent", `\Recen`, `\Recents`, ` \Recent`, `\\Recent`}, []string{"Recent", `\Recen`, `\Recents`, ` \Recent`, `\\Recent`}},
		{[]string{"k", "k", "K"}, []string{"k", "k", "K"}},
		{[]string{"", " ", "\x00", "\xff", "a b", "\r\n", `\*`}, []string{"", " ", "\x00", "\xff", "a b", "\r\n", `\*`}},
		{[]string{"\\Re\u212aent", "\\\u0280ecent"}, []string{"\\Re\u212aent", "\\\u0280ecent"}},
		{[]string{"5", "nil"}, []string{"5", "nil"}},
	} {
		for n := 1; n <= 4; n++ {
			x := standing(t).ask("x NOOP").told(fetched(n, datum("FLAGS", flagList(c.given...))))
			was := standing(t).Sight()
			was.Known[n-1], was.Flags[n-1] = true, c.want
			if got := x.Sight(); !same(got, was) {
				t.Errorf("P19.4: %d: flags %q: %+v", n, c.given, got)
			}
		}
	}
	loose := values(api.Value{Kind: api.ValueAtom, Text: "k", Num: 5, Kids: []api.Value{{}}})
	loose.Num, loose.Text = 9, "x"
	c := standing(t).ask("x NOOP").told(fetched(1, datum("FLAGS", loose))).want("what else stands there", `7/20/4 0(k) 9(\Seen) 0(k) 12?`)
	c.told(fetched(1, datum("FLAGS", flagList("a")), datum("FLAGS", flagList("b", "c")))).want("twice", `7/20/4 0(b c) 9(\Seen) 0(k) 12?`)
	c.told(fetched(1, datum("FLAGS", flagList()))).want("none, and that is known", `7/20/4 0() 9(\Seen) 0(k) 12?`)
}

// P19.4: the highest modseq rises, and never falls.
func TestDataModseq(t *testing.T) {
	for n, want := range map[int]int{0: 4, 1: 4, 3: 4, 4: 4, 5: 5, 6: 6, api.MaxNumber - 1: api.MaxNumber - 1, api.MaxNumber: api.MaxNumber} {
		for row := 1; row <= 4; row++ {
			c := standing(t).ask("x NOOP").told(fetched(row, datum("MODSEQ", values(number(n)))))
			c.want(fmt.Sprint("MODSEQ ", n), fmt.Sprintf(`7/20/%d 0? 9(\Seen) 0(k) 12?`, want))
		}
	}
	c := fresh(t).ask("a SELECT b").hear("* 1 EXISTS", "a OK x").ask("b NOOP").hear("* 1 FETCH (MODSEQ (0))").want("0 of 0", "0/0/0 0?")
	c.hear("* 1 FETCH (MODSEQ (9) MODSEQ (7))").want("twice", "0/0/9 0?").hear("* 1 FETCH (MODSEQ (10) MODSEQ (11))").want("twice", "0/0/11 0?")
}

// P19.4: names are these just so; all others say nothing, whatever their values.
func TestDataNames(t *testing.T) {
	odd := []api.Value{{}, number(10), number(-1), atom("x"), flagList("k"), values(number(99)), values(values()), {Kind: 77}}
	at := moment{"a NOOP at hand", func(t *testing.T) *client { return standing(t).ask("x NOOP", "y NOOP") }, api.VerbNoop, false, true, false}
	for _, name := range []string{"", "uid", "Uid", "UID ", " UID", "UIDS", "flags", "Flags", "FLAG", "FLAGS.SILENT", "modseq", "Modseq", "MODSEQ2", "BODY[]", "BODY[UID]", "RFC822.SIZE", "ENVELOPE", "INTERNALDATE", "\x00", "HIGHESTMODSEQ", "\u017fEEN"} {
		for _, v := range odd {
			for n := 1; n <= 4; n++ {
				at.wantMute(t, fetched(n, datum(name, v)))
				at.wantRefused(t, fetched(n, datum(name, v), datum("UID", v), datum("FLAGS", v)))
			}
		}
	}
}

// P19.4: each datum is looked at as if those ahead of it had been taken; where one is wrong, none of them says anything.
func TestDataInTurn(t *testing.T) {
	at := moment{"a NOOP at hand", func(t *testing.T) *client { return standing(t).ask("x NOOP", "y NOOP") }, api.VerbNoop, false, true, false}
	uid := func(n int) api.Datum { return datum("UID", number(n)) }
	flags := datum("FLAGS", flagList("new"))
	modseq := datum("MODSEQ", values(number(50)))
	at.wantTaken(t, fetched(1, uid(5), uid(5), flags, uid(5))).want("one uid again", `7/20/4 5(new) 9(\Seen) 0(k) 12?`)
	for _, data := range [][]api.Datum{
		{uid(5), uid(6)}, {uid(5), uid(4)}, {uid(5), flags, uid(6)}, {uid(5), flags, modseq, uid(9)}, {flags, uid(9)}, {modseq, uid(9)}, {modseq, datum("FLAGS", atom("x"))}, {flags, datum("FLAGS", values(number(1)))},
		{flags, datum("MODSEQ", number(1))}, {modseq, datum("MODSEQ", values())}, {uid(5), datum("MODSEQ", values())}, {uid(9)}, {uid(5), uid(5), uid(12)},
	} {
		at.wantRefused(t, fetched(1, data...))
	}
	c := at.wantTaken(t, fetched(3, flags, uid(11), modseq, datum("x", api.Value{}))).want("in any order", `7/20/50 0? 9(\Seen) 11(new) 12?`)
	c.refuses(fetched(1, modseq, flags, uid(11))).hear("x OK x").want("behind it", `7/20/50 0? 9(\Seen) 11(new) 12?`)
}
