package session_test

import (
	"fmt"
	"slices"
	"strings"
	"testing"

	"postbag/answer"
	"postbag/api"
	"postbag/letter"
	"postbag/lex"
	"postbag/limb"
)

// parts is a message with two parts, the second of which is a message with a text.
const (
	partsHead = "Subject: hi\r\nFrom: Jo <a@b>\r\nTo: c@d\r\nContent-Type: multipart/mixed; boundary=b\r\n\r\n"
	innerHead = "Subject: in\r\n\r\n"
	innerBody = "inner\r\n"
	mimeHead  = "Content-Type: message/rfc822\r\n\r\n"
	partsBody = "--b\r\n\r\none\r\n--b\r\n" + mimeHead + innerHead + innerBody + "\r\n--b--\r\n"
	parts     = partsHead + partsBody
)

// reading is a house with some messages in INBOX, from uid 1 on, selected by the first connection; nothing is recent.
func reading(t *testing.T, bodies ...string) *house {
	t.Helper()
	h := entered(t, 2, someRules())
	h.add(1, "inbox", "", bodies...)
	h.done(1, "s SELECT inbox", "s UNSELECT")
	h.done(0, "s SELECT inbox")
	return h
}

// printedValue is a value as an answer has it.
func printedValue(v api.Value) string {
	line, _ := answer.Print(api.Answer{Kind: api.AnswerFetch, Num: 1, Data: []api.Datum{{Name: "X", Value: v}}})
	return strings.TrimSuffix(strings.TrimPrefix(line, "* 1 FETCH (X "), ")\r\n")
}

// P17.10: every item and section, with the name that it has and what it tells.
func TestItems(t *testing.T) {
	whole := limb.Parse(parts)
	envelope := printedValue(limb.Envelope(letter.Envelope(letter.Fields(partsHead))))
	for _, c := range []struct{ item, name, value string }{
		{"FLAGS", "FLAGS", "()"},
		{"UID", "UID", "1"},
		{"INTERNALDATE", "INTERNALDATE", `" 1-Feb-2026 10:00:00 +0000"`},
		{"RFC822.SIZE", "RFC822.SIZE", fmt.Sprint(len(parts))},
		{"ENVELOPE", "ENVELOPE", envelope},
		{"BODY", "BODY", printedValue(limb.Structure(parts, whole, false))},
		{"BODYSTRUCTURE", "BODYSTRUCTURE", printedValue(limb.Structure(parts, whole, true))},
		{"RFC822.HEADER", "RFC822.HEADER", lex.String(partsHead)},
		{"MODSEQ", "MODSEQ", "(2)"},
		{"body.peek[]", "BODY[]", lex.String(parts)},
		{"BODY.PEEK[HEADER]", "BODY[HEADER]", lex.String(partsHead)},
		{"BODY.PEEK[TEXT]", "BODY[TEXT]", lex.String(partsBody)},
		{"BODY.PEEK[1]", "BODY[1]", `"one"`},
		{"BODY.PEEK[1.MIME]", "BODY[1.MIME]", lex.String("\r\n")},
		{"BODY.PEEK[2]", "BODY[2]", lex.String(innerHead + innerBody)},
		{"BODY.PEEK[2.mime]", "BODY[2.MIME]", lex.String(mimeHead)},
		{"BODY.PEEK[2.HEADER]", "BODY[2.HEADER]", lex.String(innerHead)},
		{"BODY.PEEK[2.TEXT]", "BODY[2.TEXT]", lex.String(innerBody)},
		{"BODY.PEEK[2.1]", "BODY[2.1]", lex.String(innerBody)},
		{"BODY.PEEK[header.fields (To sUBJECT x)]", "BODY[HEADER.FIELDS (To sUBJECT x)]", lex.String("Subject: hi\r\nTo: c@d\r\n\r\n")},
		{"BODY.PEEK[HEADER.FIELDS.NOT (from content-type)]", "BODY[HEADER.FIELDS.NOT (from content-type)]", lex.String("Subject: hi\r\nTo: c@d\r\n\r\n")},
		{"BODY.PEEK[2.HEADER.FIELDS (subject)]", "BODY[2.HEADER.FIELDS (subject)]", lex.String(innerHead)},
		{"BODY.PEEK[2.HEADER.FIELDS.NOT (subject)]", "BODY[2.HEADER.FIELDS.NOT (subject)]", lex.String("\r\n")},
		{"BODY.PEEK[]<0.4>", "BODY[]<0>", `"Subj"`},
		{"BODY.PEEK[1]<1.1>", "BODY[1]<1>", `"n"`},
		{"BODY.PEEK[1]<1.99>", "BODY[1]<1>", `"ne"`},
		{"BODY.PEEK[1]<3.1>", "BODY[1]<3>", `""`},
		{"BODY.PEEK[1]<4294967295.4294967295>", "BODY[1]<4294967295>", `""`},
		{"BODY.PEEK[HEADER.FIELDS (to)]<4.3>", "BODY[HEADER.FIELDS (to)]<4>", `"c@d"`},
		{"BODY.PEEK[3]", "BODY[3]", "NIL"},
		{"BODY.PEEK[3]<0.9>", "BODY[3]<0>", "NIL"},
		{"BODY.PEEK[1.HEADER]", "BODY[1.HEADER]", "NIL"},
		{"BODY.PEEK[1.1]", "BODY[1.1]", "NIL"},
		{"BODY.PEEK[1.TEXT]<7.9>", "BODY[1.TEXT]<7>", "NIL"},
		{"BODY.PEEK[2.2.HEADER.FIELDS (x)]", "BODY[2.2.HEADER.FIELDS (x)]", "NIL"},
	} {
		h := reading(t, parts)
		last := h.store().Last()
		h.want(0, "a FETCH 1 "+c.item, "* 1 FETCH ("+c.name+" "+c.value+")", "a OK FETCH done")
		if h.store().Last() != last {
			t.Errorf("P17.10: %s sets \\Seen", c.item)
		}
		if c.name != "UID" {
			h.want(0, "a UID FETCH 1 "+c.item, "* 1 FETCH (UID 1 "+c.name+" "+c.value+")", "a OK UID FETCH done")
		}
		if peeked := strings.ReplaceAll(strings.ToUpper(c.item), "BODY.PEEK[", "BODY["); strings.HasPrefix(peeked, "BODY[") {
			seen := strings.Replace(c.item, ".PEEK", "", 1)
			seen = strings.Replace(seen, ".peek", "", 1)
			h.want(0, "a FETCH 1 "+seen, "* 1 FETCH ("+c.name+" "+c.value+` FLAGS (\Seen))`, "a OK FETCH done")
			h.want(0, "a FETCH 1 "+seen, "* 1 FETCH ("+c.name+" "+c.value+")", "a OK FETCH done")
		}
	}
	h := reading(t, parts)
	h.want(0, "a FETCH 1 RFC822.TEXT", "* 1 FETCH (RFC822.TEXT "+lex.String(partsBody)+` FLAGS (\Seen))`, "a OK FETCH done")
	h = reading(t, parts)
	h.want(0, "a FETCH 1 RFC822", "* 1 FETCH (RFC822 "+lex.String(parts)+` FLAGS (\Seen))`, "a OK FETCH done")
	h.want(0, "a FETCH 1 ALL", fmt.Sprintf(`* 1 FETCH (FLAGS (\Seen) INTERNALDATE " 1-Feb-2026 10:00:00 +0000" RFC822.SIZE %d ENVELOPE %s)`, len(parts), envelope), "a OK FETCH done")
}

// P17.10: each name once; a second one is left out, also where its item is another one.
func TestNamesOnce(t *testing.T) {
	for _, c := range [][2]string{
		{"FETCH 1 (UID UID)", "UID 1"},
		{"UID FETCH 1 UID", "UID 1"},
		{"UID FETCH 1 (FLAGS UID FLAGS)", "UID 1 FLAGS ()"},
		{"FETCH 1 (FLAGS UID FLAGS MODSEQ UID)", "FLAGS () UID 1 MODSEQ (2)"},
		{"FETCH 1 (BODY.PEEK[] BODY.PEEK[])", `BODY[] "hello"`},
		{"FETCH 1 (BODY.PEEK[]<1.2> BODY.PEEK[]<1.3> BODY.PEEK[]<2.2>)", `BODY[]<1> "el" BODY[]<2> "ll"`},
		{"FETCH 1 (BODY.PEEK[HEADER.FIELDS (A)] BODY.PEEK[HEADER.FIELDS (a)] BODY.PEEK[HEADER.FIELDS (A)])", "BODY[HEADER.FIELDS (A)] {2}\r\n\r\n BODY[HEADER.FIELDS (a)] {2}\r\n\r\n"},
		{"FETCH 1 (BODY[] FLAGS)", `BODY[] "hello" FLAGS (\Seen)`},
		{"FETCH 1 (FLAGS BODY[])", `FLAGS (\Seen) BODY[] "hello"`},
		{"FETCH 1 (BODY.PEEK[] BODY[])", `BODY[] "hello" FLAGS (\Seen)`},
		{"FETCH 1 (BODY[]<0.1> BODY.PEEK[]<0.9>)", `BODY[]<0> "h" FLAGS (\Seen)`},
		{"FETCH 1 (BODY[3])", `BODY[3] NIL FLAGS (\Seen)`},
		{"UID FETCH 1 (FLAGS RFC822)", `UID 1 FLAGS (\Seen) RFC822 "hello"`},
		{"FETCH 1 (RFC822.TEXT MODSEQ)", `RFC822.TEXT "" MODSEQ (3) FLAGS (\Seen)`},
		{"FETCH 1 (RFC822.TEXT) (CHANGEDSINCE 1)", `RFC822.TEXT "" FLAGS (\Seen) MODSEQ (3)`},
		{"FETCH 1 (MODSEQ UID) (CHANGEDSINCE 1)", "MODSEQ (2) UID 1"},
		{"UID FETCH 1 FLAGS (CHANGEDSINCE 1)", "UID 1 FLAGS () MODSEQ (2)"},
	} {
		h := reading(t, "hello")
		name := strings.TrimSpace(strings.Split(c[0], " 1 ")[0])
		h.want(0, "a "+c[0], "* 1 FETCH ("+c[1]+")", "a OK "+name+" done")
	}
}

// P17.10: the messages of the set, rising, by their numbers.
func TestFetchSets(t *testing.T) {
	h := reading(t, "a", "b", "c", "d", "e")
	h.commit(h.store().Expunge(1, []int{2}))
	h.done(0, "n NOOP") // 1 3 4 5
	h.commit(h.store().Expunge(1, []int{4}))
	tell := func(numbers ...int) []string {
		var out []string
		for _, n := range numbers {
			out = append(out, fmt.Sprintf("* %d FETCH (UID %d)", n, []int{1, 3, 4, 5}[n-1]))
		}
		return out
	}
	h.want(0, "a FETCH 4,1:2,1 UID", append(tell(1, 2, 4), "a OK FETCH done")...)
	h.want(0, "a FETCH *:4 UID", append(tell(4), "a OK FETCH done")...)
	h.want(0, "a FETCH 3 UID", "a "+isGone)
	h.want(0, "a FETCH 1:* UID", "a "+isGone)
	h.want(0, "a FETCH *:9 UID", append(tell(4), "a OK FETCH done")...)
	h.want(0, "a UID FETCH 1:* UID", append(tell(1, 2, 4), "* 3 EXPUNGE", "a OK UID FETCH done")...)
	h.commit(h.store().Expunge(1, []int{5}))
	h.want(0, "a UID FETCH 9:*,4 UID", "* 2 FETCH (UID 3)", "* 3 EXPUNGE", "a OK UID FETCH done")
	h.want(0, "a UID FETCH 2,4,5,7:9 UID", "a OK UID FETCH done")
}

// P17.10: \Seen is set of those messages that had it not, in one event; the others are told without their flags.
func TestSeen(t *testing.T) {
	h := reading(t, "a", "b", "c")
	h.add(1, "inbox", `\Seen \Draft`, "d")
	h.done(0, "n NOOP")
	h.done(0, `s STORE 2 FLAGS (\Seen k)`)
	last := h.store().Last()
	h.want(0, "a FETCH 2:4 BODY[]", `* 2 FETCH (BODY[] "b")`, `* 3 FETCH (BODY[] "c" FLAGS (\Seen))`, `* 4 FETCH (BODY[] "d")`, "a OK FETCH done")
	if events := h.vault.Since(last); len(events) != 1 || len(events[0].Marks) != 1 || events[0].Marks[0].Uid != 3 {
		t.Errorf("P17.10: %+v", events)
	}
	h.done(0, "e ENABLE CONDSTORE")
	h.want(0, "a UID FETCH 1:4 RFC822", `* 1 FETCH (UID 1 RFC822 "a" FLAGS (\Seen) MODSEQ (8))`, `* 2 FETCH (UID 2 RFC822 "b")`, `* 3 FETCH (UID 3 RFC822 "c")`, `* 4 FETCH (UID 4 RFC822 "d")`, "a OK UID FETCH done")
	last = h.store().Last()
	h.want(0, "a FETCH 1:4 (BODY[])", `* 1 FETCH (BODY[] "a")`, `* 2 FETCH (BODY[] "b")`, `* 3 FETCH (BODY[] "c")`, `* 4 FETCH (BODY[] "d")`, "a OK FETCH done")
	h.want(0, "a UID FETCH 99 BODY[]", "a OK UID FETCH done")
	if h.store().Last() != last {
		t.Error("P17.10: an event of nothing")
	}
}

// P17.10: where it is open for reading alone nothing is set.
func TestReadOnlyFetch(t *testing.T) {
	h := reading(t, "a")
	h.done(0, "s EXAMINE inbox")
	last := h.store().Last()
	h.want(0, "a FETCH 1 (BODY[] RFC822 RFC822.TEXT FLAGS)", `* 1 FETCH (BODY[] "a" RFC822 "a" RFC822.TEXT "" FLAGS ())`, "a OK FETCH done")
	if h.store().Last() != last {
		t.Error("P17.10: EXAMINE sets \\Seen")
	}
}

// P17.10: CHANGEDSINCE takes only what changed since; a message that was left out is not seen.
func TestChanged(t *testing.T) {
	h := reading(t, "a", "b", "c") // modseqs 2 3 4
	h.want(0, "a FETCH 1:3 UID (CHANGEDSINCE 3)", "* 3 FETCH (UID 3 MODSEQ (4))", "a OK FETCH done")
	h.want(0, "a FETCH 1:3 UID (CHANGEDSINCE 4)", "a OK FETCH done")
	h.want(0, "a FETCH 1:3 BODY[] (CHANGEDSINCE 2)", `* 2 FETCH (BODY[] "b" FLAGS (\Seen) MODSEQ (5))`, `* 3 FETCH (BODY[] "c" FLAGS (\Seen) MODSEQ (5))`, "a OK FETCH done")
	h.want(0, "a UID FETCH 1:* FLAGS (CHANGEDSINCE 0)", "* 1 FETCH (UID 1 FLAGS () MODSEQ (2))", `* 2 FETCH (UID 2 FLAGS (\Seen) MODSEQ (5))`, `* 3 FETCH (UID 3 FLAGS (\Seen) MODSEQ (5))`, "a OK UID FETCH done")
	h.want(0, "a UID FETCH 1:* FLAGS (CHANGEDSINCE 4294967295)", "a OK UID FETCH done")
	h.commit(h.store().Expunge(1, []int{1}))
	h.want(0, "a FETCH 1:3 UID (CHANGEDSINCE 4)", "a "+isGone)
}

// fitting are bodies with which FETCH of some items of all of them tells just so many bytes.
func fitting(t *testing.T, total int, told func(number int, body string) string) []string {
	t.Helper()
	bodies := []string{strings.Repeat("x", api.MaxLiteral), strings.Repeat("y", api.MaxLiteral), strings.Repeat("z", api.MaxLiteral), ""}
	for i, body := range bodies {
		total -= len(told(i+1, body)) + len("\r\n")
	}
	if total < 0 || total > api.MaxLiteral {
		t.Fatalf("%d bytes are left", total)
	}
	bodies[3] = strings.Repeat("w", total)
	return bodies
}

// P17.10: just at MaxOutput, and one byte above; the flags that are set and the modseqs count too.
func TestMaxOutput(t *testing.T) {
	for _, c := range []struct{ before, items, behind string }{
		{"NOOP", "BODY.PEEK[]", ""},
		{"NOOP", "BODY[]", ` FLAGS (\Seen)`},
		{"ENABLE CONDSTORE", "BODY[]", ` FLAGS (\Seen) MODSEQ (6)`},
		{`STORE 1:4 FLAGS (\Seen)`, "BODY[]", ""},
		{"NOOP", "(BODY[] FLAGS)", ` FLAGS (\Seen)`},
	} {
		told := func(number int, body string) string {
			return fmt.Sprintf(`* %d FETCH (BODY[] "%s"%s)`, number, body, c.behind)
		}
		for _, more := range []int{0, 1} {
			h := reading(t, fitting(t, api.MaxOutput+more, told)...)
			h.done(0, "b "+c.before)
			last := h.store().Last()
			got := h.say(0, "a FETCH 1:4 "+c.items)
			bytes := 0
			for _, line := range got[:len(got)-1] {
				bytes += len(line) + len("\r\n")
			}
			switch {
			case more == 0 && (bytes != api.MaxOutput || got[4] != "a OK FETCH done"):
				t.Errorf("P17.10: %+v: %d bytes, %q", c, bytes, got[len(got)-1])
			case more == 1 && (!slices.Equal(got, []string{"a " + tooMuch}) || h.store().Last() != last):
				t.Errorf("P17.10: %+v: %d lines, %q", c, len(got), got[len(got)-1])
			}
			h.done(0, "a FETCH 1:3 "+c.items)
		}
	}
}

// P17.10: news does not count among the lines.
func TestMaxOutputAndNews(t *testing.T) {
	told := func(number int, body string) string { return fmt.Sprintf(`* %d FETCH (BODY[] "%s")`, number, body) }
	h := reading(t, fitting(t, api.MaxOutput, told)...)
	h.commit(h.store().Add("INBOX", nil, now, "e"))
	got := h.say(0, "a FETCH 1:4 BODY.PEEK[]")
	if !slices.Equal(got[4:], []string{"* 5 EXISTS", "* 1 RECENT", "a OK FETCH done"}) {
		t.Errorf("P17.10: %q", got[4:])
	}
}

// valueOf is the text of a datum that a FETCH of one item of the first message tells.
func (h *house) valueOf(item string) api.Value {
	h.t.Helper()
	in := command1(h.t, "v FETCH 1 "+item)
	told, err := h.conns[0].Take(in)
	if err != nil || len(told) != 2 || told[0].Kind != api.AnswerFetch {
		h.t.Fatalf("%s: %+v, %v", item, told, err)
	}
	return told[0].Data[0].Value
}

// P0.8: header and text joined are the whole; neighbouring partials join; each part is a piece of what it lies in; what was appended stays as it was, behind copies, moves and renames too.
func TestSections(t *testing.T) {
	for _, raw := range []string{parts, "", "\r\n", "no header", "A: b\r\n", "\r\nbody\r\n", "A: b\r\n\r\n\x80\xff\r", "A: \"q\\\r\n\r\n\"\\", strings.Repeat("A: b\r\n", 100) + "\r\n" + strings.Repeat("0123456789", 500)} {
		h := reading(t, raw)
		text := func(item string) string {
			v := h.valueOf(item)
			if v.Kind != api.ValueString {
				t.Errorf("P0.8: %s: %+v", item, v)
			}
			return v.Text
		}
		for range 4 {
			if text("BODY.PEEK[HEADER]")+text("BODY.PEEK[TEXT]") != raw || text("BODY.PEEK[]") != raw || text("RFC822") != raw || text("RFC822.HEADER")+text("RFC822.TEXT") != raw {
				t.Errorf("P0.8: %q", raw)
			}
			if h.valueOf("RFC822.SIZE").Num != len(raw) {
				t.Errorf("P0.8: %q: its size", raw)
			}
			for _, cut := range []int{1, 7, 100, 99999} {
				first, second := text(fmt.Sprintf("BODY.PEEK[]<0.%d>", cut)), text(fmt.Sprintf("BODY.PEEK[]<%d.5000>", cut))
				if want := raw[:min(len(raw), cut+5000)]; first+second != want {
					t.Errorf("P0.8: %q: cut at %d", raw, cut)
				}
			}
			for _, part := range []string{"1", "2", "2.1"} {
				if v := h.valueOf("BODY.PEEK[" + part + "]"); v.Kind == api.ValueString && !strings.Contains(raw, v.Text) {
					t.Errorf("P0.8: %q: part %s", raw, part)
				}
			}
			switch box := h.conns[0].Sight().Box; box {
			case 1:
				h.done(0, "c CREATE q", "c COPY 1 q", "c SELECT q")
			case 2:
				h.done(0, "c UNSELECT", "c RENAME q r", "c SELECT r")
			case 3:
				h.done(0, "c CREATE s", "c MOVE 1 s", "c SELECT s")
			}
		}
	}
}
