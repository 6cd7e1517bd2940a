package tool_test

import (
	"fmt"
	"math/rand/v2"
	"slices"
	"strings"
	"testing"

	"postbag/api"
	"postbag/event"
	"postbag/store"
	"postbag/tool"
)

const (
	onDay  = "14-Nov-2026 10:00:00 +0100"
	onHead = "From 2 " + onDay
)

// P21.3: mailboxes with no message and with several, with flags and without, with bytes of every kind.
func TestExport(t *testing.T) {
	s := fresh(t)
	wantExport := func(name, want string) {
		t.Helper()
		was := s.Freeze()
		if got, code := tool.Export(s, name); code != api.OK || got != want {
			t.Errorf("P21.3: Export of %q: %d,\n%q\nnot\n%q", name, code, got, want)
		}
		if s.Freeze() != was {
			t.Errorf("P21.3: %q: the store is not as it was", name)
		}
	}
	wantExport("INBOX", "")
	wantExport("inbox", "")
	done(t, s, makes("inbox/b/c"), makes("a"), adds("a", "hi", "k", `\seen`))
	one := onHead + " \\Seen k\nhi\n"
	wantExport("a", one)
	wantExport("INBOX", "")
	wantExport("INBOX/b", "")
	done(t, s, addsOn(early, "a", ""))
	two := one + "From 0  1-Feb-2000 00:00:00 +0000\n\n"
	wantExport("a", two)
	all := []string{`\Answered`, `\Deleted`, `\Draft`, `\Flagged`, `\Seen`, "b", "c", "d", "e", "f", "g", "H"}
	slices.Reverse(all)
	done(t, s, addsOn(api.Moment{Year: 9, Month: 12, Day: 31, Hour: 23, Minute: 59, Second: 58, Zone: -1439}, "a", "\n", all...))
	three := two + "From 1 31-Dec-0009 23:59:58 -2359 \\Answered \\Deleted \\Draft \\Flagged \\Seen b c d e f g H\n\n\n"
	wantExport("a", three)
	done(t, s, adds("a", two), adds("a", allBytes()), adds("inbox/b", "From"))
	wantExport("a", three+"From "+fmt.Sprint(len(two))+" "+onDay+"\n"+two+"\nFrom 256 "+onDay+"\n"+allBytes()+"\n")
	wantExport("Inbox/b", "From 4 "+onDay+"\nFrom\n")
	wantExport("INBOX/b/c", "")
	done(t, s, expunges(10, 1, 2, 3, 4), turns(10, 0, []int{5}, `\Draft`))
	wantExport("a", "From 256 "+onDay+" \\Draft\n"+allBytes()+"\n")
	done(t, s, copies(10, "inbox", 5), renames("a", "A"))
	wantExport("A", "From 256 "+onDay+" \\Draft\n"+allBytes()+"\n")
	wantExport("iNBOX", "From 256 "+onDay+" \\Draft\n"+allBytes()+"\n")
}

// P21.3: names that there are not, and texts that are none.
func TestExportNone(t *testing.T) {
	s := rich(t)
	for _, name := range []string{"", "q", "A", "a/", "/a", "a//b", "inbox/q", "INBO", "INBOX ", "a%", "*", "\x00", "a\x80", strings.Repeat("a/", 9) + "a", strings.Repeat("x", 1<<20), "a\n", `"a"`} {
		for what, s := range map[string]*store.Store{"a store": s, "nil": nil, "a zero one": {}} {
			if text, code := tool.Export(s, name); code != api.ErrBox || text != "" {
				t.Errorf("P21.3: Export of %s from %s: %d, %q", inShort(name), what, code, text)
			}
		}
	}
	for _, s := range []*store.Store{nil, {}} {
		if text, code := tool.Export(s, "INBOX"); code != api.ErrBox || text != "" {
			t.Errorf("P21.3: Export of INBOX from none: %d, %q", code, text)
		}
	}
}

// P21.3: random mailboxes against an Export of another make.
func TestExportRandom(t *testing.T) {
	r := rand.New(rand.NewPCG(21, 4))
	for range 300 {
		s := fresh(t)
		goOn(r, s, 25)
		for _, name := range []string{"INBOX", "inbox", "a", "a/b", "b", "INBOX/x", "inbox/x", "\"", "q"} {
			want, wantCode := slowExport(s, name)
			if got, code := tool.Export(s, name); got != want || code != wantCode {
				t.Fatalf("P21.3: Export of %q: %d,\n%q\nnot %d,\n%q", name, code, got, wantCode, want)
			}
		}
	}
}

// added is an event that adds to INBOX of a store (7, 1, 2).
func added(number, first int, date api.Moment, body string, flags ...string) api.Event {
	return api.Event{Number: number, Kind: api.EventAdd, Box: 7, First: first, Marks: []api.Mark{{Uid: first, Flags: flags}}, Date: date, Body: body}
}

// takes holds the events that Import tells, and that they fit the store in order; the store stays as it is.
func takes(t *testing.T, s *store.Store, name, text string, want ...api.Event) {
	t.Helper()
	was := s.Freeze()
	got := imported(t, s, name, text)
	if !slices.EqualFunc(got, want, sameEvent) {
		t.Errorf("P21.4: Import of %s into %q:\n%+v\nnot\n%+v", inShort(text), name, got, want)
	}
	if s.Freeze() != was {
		t.Errorf("P21.4: %s: the store is not as it was", inShort(text))
	}
	apply(t, s.Twin(), got...)
}

// P21.4: texts of some messages, and none; events that go on from each other.
func TestImport(t *testing.T) {
	s := fresh(t)
	takes(t, s, "INBOX", "")
	takes(t, s, "inbox", onHead+" \\Seen k\nhi\n", added(2, 1, day, "hi", `\Seen`, "k"))
	takes(t, s, "Inbox", onHead+" k \\sEEN K k\nhi\n", added(2, 1, day, "hi", `\Seen`, "k"))
	takes(t, s, "INBOX", "From 0  1-Feb-2000 00:00:00 +0000\n\n", added(2, 1, early, ""))
	takes(t, s, "INBOX", "From 1 "+onDay+"\n\n\n", added(2, 1, day, "\n"))
	takes(t, s, "INBOX", "From 0 "+onDay+"\n\n"+onHead+" b a\n\r\n\n"+onHead+" B\nok\n",
		added(2, 1, day, ""), added(3, 2, day, "\r\n", "a", "b"), added(4, 3, day, "ok", "b"))
	inner := onHead + "\nhi\n"
	takes(t, s, "INBOX", "From "+fmt.Sprint(len(inner))+" "+onDay+"\n"+inner+"\n"+inner, added(2, 1, day, inner), added(3, 2, day, "hi"))
	takes(t, s, "INBOX", "From 256 "+onDay+"\n"+allBytes()+"\n", added(2, 1, day, allBytes()))
	big := strings.Repeat("\n", api.MaxLiteral)
	takes(t, s, "INBOX", "From 16384 "+onDay+"\n"+big+"\n", added(2, 1, day, big))
	old := begun(t, 7, 5, 300)
	done(t, old, makes("a"), adds("a", "", "Work"))
	e := added(302, 6, day, "hi", "b", "Work")
	e.Box = 8
	takes(t, old, "a", onHead+" work b WORK\nhi\n", e)
}

// P21.4: nothing to import: whatever the name is, and the store.
func TestImportNothing(t *testing.T) {
	for what, s := range map[string]*store.Store{"a store": fresh(t), "nil": nil, "a zero one": {}} {
		for _, name := range []string{"", "INBOX", "q", "a//b", strings.Repeat("x", 100)} {
			if events, code := tool.Import(s, name, ""); code != api.OK || len(events) != 0 {
				t.Errorf("P21.4: Import of nothing into %q of %s: %d, %v", name, what, code, events)
			}
		}
	}
}

// P21.4: each piece left out, one too many, another sort in its place.
func TestImportHeads(t *testing.T) {
	s := fresh(t)
	pieces := []string{"From", " ", "2", " ", onDay, " ", `\Seen`, " ", "k", "\n", "hi", "\n"}
	whole := strings.Join(pieces, "")
	takes(t, s, "INBOX", whole, added(2, 1, day, "hi", `\Seen`, "k"))
	inPlace := func(i int, with ...string) string {
		return strings.Join(slices.Replace(slices.Clone(pieces), i, i+1, with...), "")
	}
	others := []string{"From", "  ", "\t", "\r", "\x00", onDay, "3", "x", "\"", "-", "\n"}
	for _, i := range []int{0, 1, 2, 3, 4, 5, 9, 10, 11} {
		refuses(t, s, "INBOX", inPlace(i), api.ErrMbox)
		refuses(t, s, "INBOX", inPlace(i, pieces[i], pieces[i]), api.ErrMbox)
	}
	for _, other := range others {
		for _, i := range []int{0, 1, 2, 3, 4, 11} {
			if other != pieces[i] {
				refuses(t, s, "INBOX", inPlace(i, other), api.ErrMbox)
			}
			refuses(t, s, "INBOX", inPlace(i, pieces[i], other), api.ErrMbox)
			refuses(t, s, "INBOX", inPlace(i, other, pieces[i]), api.ErrMbox)
		}
		refuses(t, s, "INBOX", inPlace(5, other), api.ErrMbox)
		refuses(t, s, "INBOX", inPlace(5, other, " "), api.ErrMbox)
	}
	// A flag has any bytes but a blank and a line's end; whether it is one Add says.
	refuses(t, s, "INBOX", inPlace(6), api.ErrMbox)
	refuses(t, s, "INBOX", inPlace(8), api.ErrMbox)
	refuses(t, s, "INBOX", inPlace(8, "k", " "), api.ErrMbox)
	refuses(t, s, "INBOX", inPlace(7, " ", " "), api.ErrMbox)
	refuses(t, s, "INBOX", inPlace(8, "k", "\n"), api.ErrMbox)
	for _, flag := range []string{"k\r", "k\tl", "\x00", "\xff", `k"`, `\Seen\Seen`, `\`, "(k)"} {
		refuses(t, s, "INBOX", inPlace(8, flag), api.ErrMark)
	}
	refuses(t, s, "INBOX", inPlace(7), api.ErrMark)
	takes(t, s, "INBOX", inPlace(8, "From"), added(2, 1, day, "hi", `\Seen`, "From"))
	takes(t, s, "INBOX", inPlace(8, "2", " ", "3"), added(2, 1, day, "hi", `\Seen`, "2", "3"))
	for _, text := range []string{"From 0 \n\n", onHead + "\nhi\nFrom 0 \n\n", "From 0  \n\n", "\n", " ", "From", "From ", "From 2", "From 2 ", "From 2 \n", "From 2\nhi\n", whole + "\n", "\n" + whole, " " + whole, whole + " ", whole + "x", whole + "From", whole + "\n" + whole, strings.ToLower(whole), "from" + whole[4:], ">" + whole, "From me@x " + onDay + "\nhi\n", "From -2 " + onDay + "\nhi\n"} {
		refuses(t, s, "INBOX", text, api.ErrMbox)
	}
}

// P21.4: how many bytes a message has.
func TestImportSizes(t *testing.T) {
	s := fresh(t)
	text := func(n, body string) string { return "From " + n + " " + onDay + "\n" + body + "\n" }
	for _, n := range []string{"02", "002", "00", "+2", "-2", "-0", "2.0", "2 ", " 2", "0x2", "1e0", "2_", "II", "", "3", "1", "0", "16385", "16384", "2147483648", "4294967298", "18446744073709551618", "-18446744073709551614", strings.Repeat("9", 1000), "2\x00", "\uff12"} {
		refuses(t, s, "INBOX", text(n, "hi"), api.ErrMbox)
	}
	takes(t, s, "INBOX", text("2", "hi"), added(2, 1, day, "hi"))
	for size := range 40 {
		for n := range 44 {
			body := strings.Repeat("x", size)
			if n != size {
				refuses(t, s, "INBOX", text(fmt.Sprint(n), body), api.ErrMbox)
			} else {
				takes(t, s, "INBOX", text(fmt.Sprint(n), body), added(2, 1, day, body))
			}
		}
	}
	for n := api.MaxLiteral - 2; n < api.MaxLiteral+3; n++ {
		for size := n - 1; size < n+2; size++ {
			if body := strings.Repeat("y", size); n == size && n <= api.MaxLiteral {
				takes(t, s, "INBOX", text(fmt.Sprint(n), body), added(2, 1, day, body))
			} else {
				refuses(t, s, "INBOX", text(fmt.Sprint(n), body), api.ErrMbox)
			}
		}
	}
	refuses(t, s, "INBOX", text("0", "\n"), api.ErrMbox)
	takes(t, s, "INBOX", text("0", ""), added(2, 1, day, ""))
}

// P21.4: a date is 26 bytes, in the one form.
func TestImportDates(t *testing.T) {
	s := fresh(t)
	text := func(date string) string { return "From 2 " + date + " k\nhi\n" }
	for date, want := range map[string]api.Moment{
		onDay:                        day,
		" 1-Feb-2000 00:00:00 +0000": early,
		"29-Feb-2000 23:59:59 +2359": {Year: 2000, Month: 2, Day: 29, Hour: 23, Minute: 59, Second: 59, Zone: 1439},
		" 9-Dec-9999 01:02:03 -2359": {Year: 9999, Month: 12, Day: 9, Hour: 1, Minute: 2, Second: 3, Zone: -1439},
		" 1-Jan-0001 00:00:00 -0001": {Year: 1, Month: 1, Day: 1, Zone: -1},
	} {
		takes(t, s, "INBOX", text(date), added(2, 1, want, "hi", "k"))
	}
	for _, date := range []string{
		"", "14-Nov-2026", "14-Nov-2026 10:00:00", "01-Feb-2000 00:00:00 +0000", "1-Feb-2000 00:00:00 +0000", "  1-Feb-2000 00:00:00 +0000", "14-nov-2026 10:00:00 +0100", "14-NOV-2026 10:00:00 +0100",
		"14-Nov-2026 10:00:00 -0000", "14-Nov-2026 24:00:00 +0100", "14-Nov-2026 10:60:00 +0100", "14-Nov-2026 10:00:60 +0100", "14-Nov-2026 10:00:00 +0160", "14-Nov-2026 10:00:00 +2400",
		"31-Nov-2026 10:00:00 +0100", "29-Feb-1900 10:00:00 +0100", " 0-Nov-2026 10:00:00 +0100", "14-Nov-0000 10:00:00 +0100", "14-Nvo-2026 10:00:00 +0100", "14 Nov 2026 10:00:00 +0100", "14-Nov-2026  10:00:00 +0100",
		"Sat, 14 Nov 2026 10:00:00 +0100", "14-Nov-2026 10:00:00  +0100", "14-Nov-2026 10:00:00 +010", "14-Nov-2026 10:00:00 +01000", "14-Nov-2026 10:00:00 GMT", "14-Nov-26 10:00:00 +0100", "14-Nov-2026\t10:00:00 +0100", "\t1-Feb-2000 00:00:00 +0000", `"` + onDay + `"`, "14-Nov-2026 10:00:00 +0100\r",
	} {
		refuses(t, s, "INBOX", text(date), api.ErrMbox)
		refuses(t, s, "INBOX", "From 2 "+date+"\nhi\n", api.ErrMbox)
	}
}

// P21.4: a text that is cut at every byte, that has one byte more, one less, another one: against an Import of another make.
func TestImportChanged(t *testing.T) {
	s := rich(t)
	some := []string{"From 3 " + onDay + " \\Seen k\nhi!\n", "From 0  1-Feb-2000 00:00:00 +0000\n\n", "From 12 " + onDay + "\nFrom 1 \nabc\n\n", onHead + " l m\n\n\n\n"}
	hold := func(text string) {
		t.Helper()
		want, wantCode := slowImport(t, s, "a", text)
		got, code := tool.Import(s, "a", text)
		if code != wantCode || !slices.EqualFunc(got, want, sameEvent) {
			t.Errorf("P21.4: Import of %q: %d,\n%+v\nnot %d,\n%+v", text, code, got, wantCode, want)
		}
	}
	for _, text := range append(some, strings.Join(some, "")) {
		hold(text)
		for i := range len(text) + 1 {
			hold(text[:i])
			hold(text[i:])
			for _, b := range []string{" ", "\n", "0", "1", "F", "k", "\\", "\r", "\x00", "\xff", ":", "-"} {
				hold(text[:i] + b + text[i:])
				if i < len(text) {
					hold(text[:i] + b + text[i+1:])
				}
			}
			if i < len(text) {
				hold(text[:i] + text[i+1:])
			}
		}
	}
}

// P21.4: a text that is cut at every byte is whole behind each message alone.
func TestImportCut(t *testing.T) {
	s := fresh(t)
	some := []string{"From 3 " + onDay + " \\Seen k\nhi!\n", "From 0  1-Feb-2000 00:00:00 +0000\n\n", "From 5 " + onDay + " m\nFrom \n"}
	events := []api.Event{added(2, 1, day, "hi!", `\Seen`, "k"), added(3, 2, early, ""), added(4, 3, day, "From ", "m")}
	text := strings.Join(some, "")
	whole, at := 0, 0
	for cut := range len(text) + 1 {
		if whole < len(some) && cut == at+len(some[whole]) {
			at, whole = cut, whole+1
		}
		if cut == at {
			takes(t, s, "INBOX", text[:cut], events[:whole]...)
		} else {
			refuses(t, s, "INBOX", text[:cut], api.ErrMbox)
		}
	}
}

// P21.4: the first error that Add says, of the first message or of a later one.
func TestImportRefused(t *testing.T) {
	s := fresh(t)
	done(t, s, makes("a"), adds("a", "", "k1", "k2", "k3", "k4", "k5", "k6", "k7"))
	full := fresh(t)
	for range api.MaxMails - 1 {
		done(t, full, adds("INBOX", "x"))
	}
	late := begun(t, 7, end-1, 2)
	lastEvent := begun(t, 7, 1, end-1)
	head := func(flags ...string) string { return strings.Join(append([]string{onHead}, flags...), " ") + "\nhi\n" }
	var many []string
	for range api.MaxFlags + 1 {
		many = append(many, "k1")
	}
	for _, c := range []struct {
		what  string
		s     *store.Store
		name  string
		fits  string // ahead of it
		wrong string
		want  api.Errno
	}{
		{"too many flags", s, "a", head(many[1:]...), head(many...), api.ErrLong},
		{"a flag of the system that there is not", s, "a", head(`\seen`), head(`\Recent`), api.ErrMark},
		{"no flag", s, "a", head(), head("k(1)"), api.ErrMark},
		{"a keyword that is too long", s, "a", head(strings.Repeat("k", api.MaxKeyword)), head(strings.Repeat("k", api.MaxKeyword+1)), api.ErrMark},
		{"bytes that no flag has", s, "a", head(), head("\xff"), api.ErrMark},
		{"a keyword too many", s, "a", head("k8", "K1"), head("k9"), api.ErrLimit},
		{"a message too many", full, "INBOX", head(), head(), api.ErrLimit},
		{"no uid any more", late, "INBOX", head() + head(), head(), api.ErrEnd},
		{"no number any more", lastEvent, "INBOX", head() + head(), head(), api.ErrEnd},
		{"no such mailbox", s, "q", "", head(), api.ErrBox},
		{"no such mailbox, though it could be one's name", s, "A", "", head(), api.ErrBox},
		{"no name", s, "a//b", "", head(), api.ErrCannot},
		{"an empty name", s, "", "", head(), api.ErrCannot},
		{"a name too long", s, strings.Repeat("x", 1<<20), "", head(), api.ErrCannot},
		{"no store", nil, "INBOX", "", head(), api.ErrBox},
		{"a zero store", &store.Store{}, "INBOX", "", head(), api.ErrBox},
		{"no store, and no name", nil, "a%", "", head(), api.ErrCannot},
		{"no store, and no flag", nil, "a", "", head("k(1)"), api.ErrMark},
	} {
		if c.fits != "" {
			apply(t, c.s.Twin(), imported(t, c.s, c.name, c.fits)...)
			refuses(t, c.s, c.name, c.fits+c.wrong, c.want)
			refuses(t, c.s, c.name, c.fits+c.wrong+head(), c.want)
		} else {
			refuses(t, c.s, c.name, c.wrong, c.want)
		}
		// Two errors at once: the text's own ones come first, then those of the message that stands first.
		refuses(t, c.s, c.name, c.fits+c.wrong+"x", api.ErrMbox)
		refuses(t, c.s, c.name, c.fits+c.wrong+strings.TrimSuffix(head(), "\n"), api.ErrMbox)
		refuses(t, c.s, c.name, c.fits+c.wrong+strings.Repeat("x", 2*api.MaxDisk), api.ErrLong)
		refuses(t, c.s, c.name, c.fits+c.wrong+head("(")+head(append(many, "(")...), c.want)
	}
	refuses(t, s, "a//b", head("(")+head(many...), api.ErrCannot)
	refuses(t, s, "q", head("(")+head(many...), api.ErrMark)
	refuses(t, s, "q", head(many...)+head("("), api.ErrLong)
	refuses(t, s, "a", head("k9", "k8")+head("("), api.ErrLimit)
	refuses(t, s, "a//b", head(append(many, "(")...), api.ErrLong)
}

// P21.4: texts of just as many bytes as there may be, and one more.
func TestImportLong(t *testing.T) {
	s := fresh(t)
	one := "From 16384 " + onDay + "\n" + strings.Repeat("z", api.MaxLiteral) + "\n"
	text := strings.Repeat(one, 2*api.MaxDisk/len(one))
	left := 2*api.MaxDisk - len(text) - len("From 10000 "+onDay+"\n\n")
	text += "From " + fmt.Sprint(left) + " " + onDay + "\n" + strings.Repeat("z", left) + "\n"
	if len(text) != 2*api.MaxDisk || left < 10000 {
		t.Fatalf("%d bytes, %d left", len(text), left)
	}
	refuses(t, s, "INBOX", text, api.ErrLimit) // there are more than MaxMails messages
	refuses(t, s, "q", text, api.ErrBox)
	refuses(t, s, "q", text[:len(text)-1]+"x", api.ErrMbox)
	for _, longer := range []string{text + "x", text + "\n", strings.Repeat("x", 2*api.MaxDisk+1), text + text} {
		refuses(t, s, "INBOX", longer, api.ErrLong)
		refuses(t, s, "a//b", longer, api.ErrLong)
		refuses(t, nil, "INBOX", longer, api.ErrLong)
	}
	refuses(t, s, "INBOX", strings.Repeat("x", 2*api.MaxDisk), api.ErrMbox)
	refuses(t, s, "INBOX", onHead+strings.Repeat(" k", api.MaxDisk-40)+"\nhi\n", api.ErrLong) // that many flags Add does not take
	refuses(t, s, "INBOX", strings.Repeat("From 0 "+onDay+"\n\n", 50000), api.ErrLimit)
	var events []api.Event
	for i := range api.MaxMails {
		events = append(events, added(i+2, i+1, day, strings.Repeat("z", api.MaxLiteral)))
	}
	takes(t, s, "INBOX", strings.Repeat(one, api.MaxMails), events...)
	refuses(t, s, "INBOX", strings.Repeat(one, api.MaxMails+1), api.ErrLimit)
}

// P21.4: random texts, right ones and changed ones, against an Import of another make; whoever applies the events has the messages.
func TestImportRandom(t *testing.T) {
	r := rand.New(rand.NewPCG(21, 5))
	codes := map[api.Errno]int{}
	for range 2500 {
		s := begun(t, 7, oneOf(r, 1, 1, 1, end-1), oneOf(r, 2, 2, 2, end-2))
		done(t, s, makes("a"))
		if s.Last() < end-2 {
			for range r.IntN(3) {
				done(t, s, adds("a", "x"))
			}
		}
		text := ""
		for range r.IntN(4) {
			text += someMail(r)
		}
		if r.IntN(4) == 0 && text != "" {
			i := r.IntN(len(text))
			text = text[:i] + oneOf(r, "", " ", "\n", "9", "(") + text[i+r.IntN(2):]
		}
		name := oneOf(r, "a", "a", "a", "inbox", "q", "a%")
		want, wantCode := slowImport(t, s, name, text)
		codes[wantCode]++
		if wantCode != api.OK {
			refuses(t, s, name, text, wantCode)
			continue
		}
		takes(t, s, name, text, want...)
		apply(t, s, want...)
		wantMails(t, s, name, text)
	}
	for _, code := range []api.Errno{api.OK, api.ErrMbox, api.ErrMark, api.ErrBox, api.ErrCannot, api.ErrEnd} {
		if codes[code] < 20 {
			t.Errorf("%d came %d times alone", code, codes[code])
		}
	}
}

// someMail is a message in a mailbox's text, with flags as a rule.
func someMail(r *rand.Rand) string {
	body := anyText(r)
	head := fmt.Sprintf("From %d %s", len(body), slowDate(anyDate(r)))
	for _, f := range someFlags(r) {
		head += " " + f
	}
	if r.IntN(12) == 0 {
		head += " " + oneOf(r, `\Recent`, "(", "a)", "%", strings.Repeat("k", 25))
	}
	return head + "\n" + body + "\n"
}

// wantMails holds that a mailbox's last messages are those of a text.
func wantMails(t *testing.T, s *store.Store, name, text string) {
	t.Helper()
	want, _ := slowMails(text)
	box, _ := s.Box(name)
	got, _ := s.Mails(box.Validity)
	if len(got) < len(want) {
		t.Fatalf("P21.4: %d messages, not %d", len(got), len(want))
	}
	for i, m := range got[len(got)-len(want):] {
		flags, _ := event.Flags(want[i].Flags)
		if m.Date != want[i].Date || m.Raw != want[i].Raw || !slices.EqualFunc(m.Flags, flags, strings.EqualFold) {
			t.Errorf("P21.4: %+v\nof %q", m, text)
		}
	}
}

// P21.5: what Export writes Import takes, into the same mailbox, into another one, and into one of another store that knows keywords in other letters; Export of that has the same.
func TestThereAndBack(t *testing.T) {
	r := rand.New(rand.NewPCG(21, 6))
	for range 400 {
		s := fresh(t)
		for range r.IntN(12) {
			done(t, s, addsOn(anyDate(r), "INBOX", anyText(r), someFlags(r)...))
		}
		done(t, s, makes("b"), adds("b", "former", "K", "WORK", "Zed"))
		other := fresh(t)
		done(t, other, makes("b"), makes("empty"), adds("b", "former", "wORK", "L"), adds("INBOX", "another"))
		text := exported(t, s, "inbox")
		for _, c := range []struct {
			s    *store.Store
			name string
		}{{s, "INBOX"}, {s, "b"}, {other, "b"}, {other, "empty"}, {other, "INBOX"}, {begun(t, 1, 900, 77), "INBOX"}} {
			into := c.s.Twin()
			former := exported(t, into, c.name)
			apply(t, into, imported(t, into, c.name, text)...)
			now := exported(t, into, c.name)
			added, is := strings.CutPrefix(now, former)
			if !is {
				t.Fatalf("P21.5: the former messages %q are %q", former, now)
			}
			wantAlike(t, into, added, text)
			if c.s != s && c.name == "empty" && added != text {
				t.Errorf("P21.5: in an empty mailbox %q is %q", text, added)
			}
		}
	}
}

// wantAlike holds that two texts have the same messages, but for how keywords are written: those are written as the mailbox knows them.
func wantAlike(t *testing.T, s *store.Store, got, want string) {
	t.Helper()
	one, isOne := slowMails(got)
	two, isTwo := slowMails(want)
	if !isOne || !isTwo || len(one) != len(two) {
		t.Fatalf("P21.5: %q\nnot\n%q", got, want)
	}
	for i, m := range one {
		if m.Date != two[i].Date || m.Raw != two[i].Raw || !slices.EqualFunc(m.Flags, two[i].Flags, strings.EqualFold) {
			t.Errorf("P21.5: %+v\nnot\n%+v", m, two[i])
		}
		for _, f := range m.Flags {
			known := slices.ContainsFunc(s.Boxes(), func(b api.BoxSight) bool { return slices.Contains(b.Keywords, f) })
			if f[0] != '\\' && !known {
				t.Errorf("P21.5: no mailbox writes %q", f)
			}
		}
	}
}

// P21.5: keywords are written as the other mailbox knows them.
func TestThereAndBackKeywords(t *testing.T) {
	s := fresh(t)
	done(t, s, makes("b"), adds("INBOX", "1", "work", "zed", `\Seen`), adds("INBOX", "2", "Zed"), adds("b", "0", "WORK"))
	text := exported(t, s, "INBOX")
	apply(t, s, imported(t, s, "b", text)...)
	want := "From 1 " + onDay + " WORK\n0\nFrom 1 " + onDay + " \\Seen WORK zed\n1\nFrom 1 " + onDay + " zed\n2\n"
	if got := exported(t, s, "b"); got != want {
		t.Errorf("P21.5: %q\nnot\n%q", got, want)
	}
}

// P21.5: a full mailbox, with messages as long as they may be, goes into an empty one.
func TestThereAndBackFull(t *testing.T) {
	s := fresh(t)
	done(t, s, makes("b"))
	all := []string{`\Answered`, `\Deleted`, `\Draft`, `\Flagged`, `\Seen`}
	for i := range api.MaxKeywords {
		all = append(all, fmt.Sprint(strings.Repeat("k", api.MaxKeyword-1), i))
	}
	for range api.MaxMails {
		done(t, s, adds("INBOX", strings.Repeat("\xff", api.MaxLiteral), all...))
	}
	text := exported(t, s, "INBOX")
	if len(text) > 2*api.MaxDisk {
		t.Errorf("P21.4: a whole mailbox has %d bytes", len(text))
	}
	apply(t, s, imported(t, s, "b", text)...)
	if exported(t, s, "b") != text {
		t.Errorf("P21.5: a full mailbox is another one")
	}
	refuses(t, s, "b", text, api.ErrLimit)
}
