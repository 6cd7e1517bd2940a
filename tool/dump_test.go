package tool_test

import (
	"fmt"
	"math/rand/v2"
	"slices"
	"strings"
	"testing"

	"postbag/api"
	"postbag/event"
	"postbag/tool"
)

// P21.1: events of every kind, as they come in a store.
func TestDumpStory(t *testing.T) {
	list := frames(t, done(t, fresh(t), story()...)...)
	wantDump(t, joined(list), told()...)
	for i := range list {
		wantDump(t, joined(list[i:]), told()[i:]...)
		wantDump(t, joined(list[:i]), told()[:i]...)
	}
}

// someEvents are events that chapter 11 takes, and what Dump says of them behind their number; no store need take them.
func someEvents() []struct {
	e    api.Event
	line string
} {
	wide := api.Moment{Year: 9999, Month: 12, Day: 31, Hour: 23, Minute: 59, Second: 59, Zone: -1439}
	var names, uids, marks []string
	all := api.Event{Kind: api.EventMake}
	ids := api.Event{Kind: api.EventExpunge, Box: end}
	turned := api.Event{Kind: api.EventFlags, Box: 1}
	for i := range api.MaxBoxes {
		all.Names, all.Boxes = append(all.Names, fmt.Sprintf("b%d", i)), append(all.Boxes, end-15+i)
		names = append(names, fmt.Sprintf(`"b%d" %d`, i, end-15+i))
	}
	for i := range api.MaxMails {
		ids.Uids = append(ids.Uids, end-63+i)
		uids = append(uids, fmt.Sprint(end-63+i))
		turned.Marks = append(turned.Marks, api.Mark{Uid: i + 1})
		marks = append(marks, fmt.Sprint(i+1, " ()"))
	}
	return []struct {
		e    api.Event
		line string
	}{
		{api.Event{Kind: api.EventMake, Names: []string{"a"}, Boxes: []int{1}}, `make "a" 1`},
		{api.Event{Kind: api.EventMake, Names: []string{"a", "INBOX/ b", "\"", `\`}, Boxes: []int{9, 10, 11, 12}}, `make "a" 9 "INBOX/ b" 10 "\"" 11 "\\" 12`},
		{all, "make " + strings.Join(names, " ")},
		{api.Event{Kind: api.EventDrop, Box: 1}, "drop 1"},
		{api.Event{Kind: api.EventDrop, Box: end}, "drop 4294967294"},
		{api.Event{Kind: api.EventRename, Box: 5, Names: []string{"日"}, Boxes: []int{6}}, `rename 5 "\xe6\x97\xa5" 6`},
		{api.Event{Kind: api.EventRename, Box: 5, Names: []string{"é", "x y", "#"}, Boxes: []int{4, 5, 6}}, `rename 5 "\xc3\xa9" 4 "x y" 5 "#" 6`},
		{api.Event{Kind: api.EventInbox, Box: 5, Names: []string{"{3}"}, Boxes: []int{6}}, `inbox 5 "{3}" 6`},
		{api.Event{Kind: api.EventInbox, Box: 5, Names: []string{"a", "b"}, Boxes: []int{7, 8}}, `inbox 5 "a" 7 "b" 8`},
		{api.Event{Kind: api.EventAdd, Box: 3, First: end, Marks: []api.Mark{{Uid: end}}, Date: early}, `add 3 4294967294 " 1-Feb-2000 00:00:00 +0000" () ""`},
		{api.Event{Kind: api.EventAdd, Box: 3, First: 4, Marks: []api.Mark{{Uid: 4, Flags: []string{`\Answered`, `\Deleted`, `\Draft`, `\Flagged`, `\Seen`, "#1", "<c", "B"}}}, Date: wide, Body: "From: me\r\n\r\n\"hi\"\\\t\x7f"},
			`add 3 4 "31-Dec-9999 23:59:59 -2359" (\Answered \Deleted \Draft \Flagged \Seen #1 <c B) "From: me\r\n\r\n\"hi\"\\\x09\x7f"`},
		{api.Event{Kind: api.EventAdd, Box: 3, First: 4, Marks: []api.Mark{{Uid: 4}}, Date: early, Body: "\r\n"}, `add 3 4 " 1-Feb-2000 00:00:00 +0000" () "\r\n"`},
		{api.Event{Kind: api.EventAdd, Box: 3, First: 4, Marks: []api.Mark{{Uid: 4}}, Date: early, Body: ` pass ""` + "\n"}, `add 3 4 " 1-Feb-2000 00:00:00 +0000" () " pass \"\"\n"`},
		{api.Event{Kind: api.EventAdd, Box: 3, First: 4, Marks: []api.Mark{{Uid: 4, Flags: []string{"k"}}}, Date: day, Body: strings.Repeat("\xff", api.MaxLiteral)},
			`add 3 4 "14-Nov-2026 10:00:00 +0100" (k) "` + strings.Repeat(`\xff`, api.MaxLiteral) + `"`},
		{api.Event{Kind: api.EventFlags, Box: 3, Marks: []api.Mark{{Uid: 2}}}, "flags 3 2 ()"},
		{api.Event{Kind: api.EventFlags, Box: 3, Marks: []api.Mark{{Uid: 2, Flags: []string{`\Seen`}}, {Uid: 9}, {Uid: end, Flags: []string{`\Draft`, "k", "Z"}}}}, `flags 3 2 (\Seen) 9 () 4294967294 (\Draft k Z)`},
		{turned, "flags 1 " + strings.Join(marks, " ")},
		{api.Event{Kind: api.EventExpunge, Box: 3, Uids: []int{1}}, "expunge 3 1"},
		{ids, "expunge 4294967294 " + strings.Join(uids, " ")},
		{api.Event{Kind: api.EventCopy, Box: 3, To: 4, First: 5, Uids: []int{6}}, "copy 3 to 4 at 5 6"},
		{api.Event{Kind: api.EventCopy, Box: 4, To: 4, First: 9, Uids: []int{1, 2, 8}}, "copy 4 to 4 at 9 1 2 8"},
		{api.Event{Kind: api.EventMove, Box: 3, To: 4, First: 5, Uids: []int{6, 7}}, "move 3 to 4 at 5 6 7"},
		{api.Event{Kind: api.EventSubscribe, Name: "INBOX"}, `subscribe "INBOX"`},
		{api.Event{Kind: api.EventUnsubscribe, Name: "a/é \"b\""}, `unsubscribe "a/\xc3\xa9 \"b\""`},
	}
}

// P21.1: each event by itself, at the first number that one may have and at the last.
func TestDumpEvents(t *testing.T) {
	for _, c := range someEvents() {
		for _, n := range []int{2, 3, 300, end} {
			c.e.Number = n
			wantDump(t, joined(frames(t, c.e)), fmt.Sprint(n, " ", c.line))
		}
		if got := slowWords(c.e); got != c.line {
			t.Errorf("the other make says %s, not %s", got, c.line)
		}
	}
}

// P21.1: every byte that a message may have, first, last and between others.
func TestDumpBytes(t *testing.T) {
	for i := range 256 {
		b := string([]byte{byte(i)})
		for _, body := range []string{b, b + "x", "x" + b, b + b, `"` + b + `\`} {
			e := api.Event{Number: 2, Kind: api.EventAdd, Box: 3, First: 4, Marks: []api.Mark{{Uid: 4}}, Date: early, Body: body}
			wantDump(t, joined(frames(t, e)), `2 add 3 4 " 1-Feb-2000 00:00:00 +0000" () `+slowQuoted(body))
		}
		name := b + "x"
		e := api.Event{Number: 2, Kind: api.EventSubscribe, Name: name}
		if event.Check(e) == api.OK {
			wantDump(t, joined(frames(t, e)), "2 subscribe "+slowQuoted(name))
		}
	}
}

// P21.1: a frame of a store, whatever its body is; an event's frame with a body that is none, or one with another number.
func TestDumpFrames(t *testing.T) {
	drop := bodyOf(t, api.Event{Number: 5, Kind: api.EventDrop, Box: 8})
	frozen := rich(t).Freeze()
	for _, c := range []struct {
		kind int
		body string
		want string
	}{
		{api.FrameEvent, drop, "drop 8"},
		{api.FrameStore, frozen, fmt.Sprint("store ", len(frozen))},
		{api.FrameStore, "", "store 0"},
		{api.FrameStore, "no store", "store 8"},
		{api.FrameStore, drop, "store 3"},
		{api.FrameStore, strings.Repeat("x", api.MaxFrame), "store 2097152"},
		{api.FrameEvent, "", "unreadable 0"},
		{api.FrameEvent, "x", "unreadable 1"},
		{api.FrameEvent, frozen, fmt.Sprint("unreadable ", len(frozen))},
		{api.FrameEvent, drop + "\x00", "unreadable 4"},
		{api.FrameEvent, drop[:2], "unreadable 2"},
		{api.FrameEvent, drop + drop, "unreadable 6"},
		{api.FrameEvent, "\x0b\x05\x01a", "unsubscribe \"a\""},
		{api.FrameEvent, "\x0c\x05\x01a", "unreadable 4"},
		{api.FrameEvent, "\x00\x05\x01a", "unreadable 4"},
		{api.FrameEvent, "\x02\x05\x00", "unreadable 3"},
		{api.FrameEvent, "\x02\x85\x00\x08", "unreadable 4"},
		{api.FrameEvent, bodyOf(t, api.Event{Number: 4, Kind: api.EventDrop, Box: 8}), "unreadable 3"},
		{api.FrameEvent, bodyOf(t, api.Event{Number: 6, Kind: api.EventDrop, Box: 8}), "unreadable 3"},
		{api.FrameEvent, strings.Repeat("x", api.MaxFrame), "unreadable 2097152"},
	} {
		wantDump(t, framed(t, c.kind, 5, c.body), "5 "+c.want)
		wantDump(t, framed(t, api.FrameStore, 4, "ab")+framed(t, c.kind, 5, c.body)+framed(t, api.FrameEvent, 6, "ab"), "4 store 2", "5 "+c.want, "6 unreadable 2")
	}
	wantDump(t, framed(t, api.FrameStore, 1, "")+framed(t, api.FrameEvent, 2, bodyOf(t, api.Event{Number: 2, Kind: api.EventDrop, Box: 8})), "1 store 0", "2 drop 8")
	wantDump(t, framed(t, api.FrameEvent, 1, "\x02\x01\x08"), "1 unreadable 3")
	wantDump(t, framed(t, api.FrameStore, end, ""), "4294967294 store 0")
}

// P21.1: a journal without a frame.
func TestDumpNothing(t *testing.T) {
	wantDump(t, "")
	wantDump(t, "abc", "rest 3")
	wantDump(t, "\x00", "rest 1")
	wantDump(t, "\xb7", "rest 1")
	wantDump(t, "2 drop 8\n", "rest 9")
	wantDump(t, strings.Repeat("\xb7\x01", 500000), "rest 1000000")
	one := joined(frames(t, api.Event{Number: 2, Kind: api.EventDrop, Box: 8}))
	wantDump(t, "\x00"+one, fmt.Sprint("rest ", len(one)+1))
}

// P21.1: frames cut at every byte, and with some bytes behind the cut; the number that follows is asked for.
func TestDumpCut(t *testing.T) {
	list := frames(t, done(t, fresh(t), story()...)...)
	journal, lines := joined(list), told()
	whole, at := 0, 0 // the frames ahead of the cut, and where they end
	for cut := range len(journal) + 1 {
		if whole < len(list) && cut == at+len(list[whole]) {
			at, whole = cut, whole+1
		}
		for _, behind := range []string{"", "x", "\xb7\x01\x00", strings.Repeat("\x00", 400)} {
			want := slices.Clone(lines[:whole])
			if left := cut - at + len(behind); left > 0 {
				want = append(want, fmt.Sprint("rest ", left))
			}
			wantDump(t, journal[:cut]+behind, want...)
		}
	}
	for _, again := range []int{0, 1, 3, 5} { // a frame whose number is not the next one
		left := len(list[again]) + len(list[4])
		wantDump(t, joined(list[:4])+list[again]+list[4], append(slices.Clone(lines[:4]), fmt.Sprint("rest ", left))...)
	}
}

// P21.1: frames with a byte that is turned, the bytes of their sums among them.
func TestDumpWrongSums(t *testing.T) {
	events := done(t, fresh(t), makes("a"), adds("a", "hello", "k"), subscribes("a"), turns(8, 0, []int{1}))
	list := frames(t, events...)
	journal := joined(list)
	var whole []string
	at := 0
	for i, f := range list {
		for place := at; place < at+len(f); place++ {
			for _, turn := range []byte{1, 2, 128, 255} {
				bytes := []byte(journal)
				bytes[place] ^= turn
				wantDump(t, string(bytes), append(slices.Clone(whole), fmt.Sprint("rest ", len(journal)-at))...)
			}
		}
		at += len(f)
		whole = append(whole, fmt.Sprint(events[i].Number, " ", slowWords(events[i])))
	}
}

// anyEvent is an event that chapter 11 takes.
func anyEvent(r *rand.Rand, number int) api.Event {
	some := someEvents()
	e := some[r.IntN(len(some))].e
	e.Number = number
	number = 1 + r.IntN(end)
	switch e.Kind {
	case api.EventAdd:
		e.Box, e.First, e.Body, e.Date = number, number, anyText(r), anyDate(r)
		e.Marks = []api.Mark{{Uid: number, Flags: anyFlags(r)}}
	case api.EventFlags:
		e.Marks = nil
		for range 1 + r.IntN(5) {
			e.Marks = append(e.Marks, api.Mark{Uid: number + len(e.Marks)*3, Flags: anyFlags(r)})
		}
	}
	return e
}

func anyText(r *rand.Rand) string {
	text := make([]byte, r.IntN(40))
	for i := range text {
		text[i] = oneOf(r, '"', '\\', '\r', '\n', ' ', 'x', 'F', byte(r.IntN(256)))
	}
	return string(text)
}

func anyDate(r *rand.Rand) api.Moment {
	return api.Moment{Year: oneOf(r, 1, 99, 999, 1970, 2026, 9999), Month: 1 + r.IntN(12), Day: 1 + r.IntN(28), Hour: r.IntN(24), Minute: r.IntN(60), Second: r.IntN(60), Zone: oneOf(r, 0, 1, -1, 60, -90, 1439, -1439)}
}

func anyFlags(r *rand.Rand) []string {
	flags, _ := event.Flags(someFlags(r))
	return flags
}

func someFlags(r *rand.Rand) []string {
	var out []string
	for range r.IntN(5) {
		f := oneOf(r, `\Seen`, `\Answered`, `\Deleted`, `\Draft`, `\Flagged`, "k", "l", "work", "$x", "#", "<a", "zed")
		if r.IntN(3) == 0 {
			f = strings.ToUpper(f)
		}
		out = append(out, f)
	}
	return out
}

// anyRow is a frame of any kind.
func anyRow(t *testing.T, r *rand.Rand, number int) row {
	t.Helper()
	e := anyEvent(r, max(number, 2))
	x := row{kind: api.FrameEvent, number: number, body: bodyOf(t, e), e: &e}
	switch r.IntN(8) {
	case 0:
		x.kind = api.FrameStore
	case 1:
		x.body, x.e = x.body+"x", nil
	case 2:
		x.body, x.e = x.body[:len(x.body)-1], nil
	case 3:
		x.body, x.e = "", nil
	case 4:
		other := e
		other.Number = oneOf(r, e.Number+1, max(2, e.Number-1), 2, end)
		x.body, x.e = bodyOf(t, other), &other
	}
	return x
}

// behind is bytes that begin no frame with the number that would follow.
func behind(r *rand.Rand, last string) string {
	if last == "" {
		last = "x"
	}
	return oneOf(r, "", "", "x", "\xb7", "\xb7\x01\x00\x00\x00\x02", last, last[:len(last)-1], strings.Repeat("\x00", 30))
}

// P21.1: random frames and what stands behind them.
func TestDumpRandom(t *testing.T) {
	r := rand.New(rand.NewPCG(21, 1))
	for range 1500 {
		journal, want, last := "", "", ""
		number := oneOf(r, 1, 2, 3, 5, 127, 128, 4000000000)
		for i := range r.IntN(7) {
			x := anyRow(t, r, number+i)
			last = framed(t, x.kind, x.number, x.body)
			journal += last
			want += x.line()
		}
		if b := behind(r, last); b != "" {
			journal += b
			want += fmt.Sprintln("rest", len(b))
		}
		if got := tool.Dump(journal); got != want {
			t.Fatalf("P21.1: Dump is\n%s\nnot\n%s", got, want)
		}
	}
}

// P21.1: what a vault's journal has: the events as frames, one behind the other, from any number on.
func TestDumpNumbers(t *testing.T) {
	for _, number := range []int{2, 9, 128, 100000, end - 3} {
		s := begun(t, 7, 1, number)
		events := done(t, s, makes("a"), subscribes("a"), unsubscribes("a"))
		wantDump(t, joined(frames(t, events...)), fmt.Sprint(number, ` make "a" 8`), fmt.Sprint(number+1, ` subscribe "a"`), fmt.Sprint(number+2, ` unsubscribe "a"`))
	}
}

// P21.1: a checkpoint's frame, and the events behind it.
func TestDumpCheckpoint(t *testing.T) {
	s := fresh(t)
	done(t, s, makes("a"))
	frozen := s.Freeze()
	e := done(t, s, drops("a"))[0]
	wantDump(t, framed(t, api.FrameStore, 2, frozen)+joined(frames(t, e)), fmt.Sprint("2 store ", len(frozen)), "3 drop 8")
}
