package store_test

import (
	"fmt"
	"slices"
	"strings"
	"testing"

	"postbag/api"
	"postbag/store"
)

// P12.1
func TestNew(t *testing.T) {
	numbers := []int{least, -1, 0, 1, 2, 3, end - 1, end, end + 1, end + 2, most}
	for _, validity := range numbers {
		for _, uid := range numbers {
			for _, number := range numbers {
				s, code := store.New(validity, uid, number)
				if within(validity, 1, end) && within(uid, 1, end) && within(number, 2, end) {
					if code != api.OK || s == nil {
						t.Errorf("New(%d, %d, %d): %d", validity, uid, number, code)
						continue
					}
					want := fmt.Sprintf("\"INBOX\" %d next %d highest %d count 0 unseen 0 []\n[] last %d", validity, uid, number-1, number-1)
					if got := told(s); got != want {
						t.Errorf("New(%d, %d, %d): %s, not %s", validity, uid, number, got, want)
					}
				} else if code != api.ErrNumber || s != nil {
					t.Errorf("New(%d, %d, %d): %v, %d", validity, uid, number, s, code)
				}
			}
		}
	}
	s := begun(t, 7, 40, 100)
	answers(t, s, makes("a"), api.Event{Number: 100, Kind: api.EventMake, Names: []string{"a"}, Boxes: []int{8}})
	done(t, s, makes("a"))
	if b, code := s.Box("a"); code != api.OK || b.Next != 40 || b.Validity != 8 {
		t.Errorf("the first uid, the next validity: %+v, %d", b, code)
	}
}

// noNames is what is no name, wherever a name may stand.
var noNames = []string{
	"", "/", "a/", "/a", "a//b", "a%", "*", "a/b*c", "\x00", "a\x1fb", "a\x7f", "a\n", "\xff", "a/\xc3", "\xed\xa0\x80", "inbox/", "INBOX//x", "Inbox/%",
	strings.Repeat("n", 33), "a/" + strings.Repeat("é", 17), "1/2/3/4/5/6/7", strings.Repeat("n", 100000), strings.Repeat("/", 1000),
}

// longest is the longest name.
var longest = strings.Repeat(strings.Repeat("y", 32)+"/", 5) + strings.Repeat("z", 32)

// P12.2
func TestMake(t *testing.T) {
	s := begun(t, 7, 1, 2)
	for _, name := range noNames {
		refuses(t, s, makes(name), api.ErrCannot)
	}
	for _, name := range []string{"INBOX", "inbox", "Inbox", "iNBOX"} {
		refuses(t, s, makes(name), api.ErrCannot)
	}
	for name, names := range map[string][]string{
		"a": {"a"}, "a/b": {"a", "a/b"}, "inbox/x": {"INBOX/x"}, "InBoX/x/Y": {"INBOX/x", "INBOX/x/Y"}, "a/inbox": {"a", "a/inbox"}, "inboxes": {"inboxes"}, "日本/é b&": {"日本", "日本/é b&"},
		"inbox /x": {"inbox ", "inbox /x"}, "\u0131nbox": {"\u0131nbox"}, "İNBOX/x": {"İNBOX", "İNBOX/x"}, "1/2/3/4/5/6": {"1", "1/2", "1/2/3", "1/2/3/4", "1/2/3/4/5", "1/2/3/4/5/6"}, strings.Repeat("n", 32): {strings.Repeat("n", 32)},
		longest: {longest[:32], longest[:65], longest[:98], longest[:131], longest[:164], longest},
	} {
		var boxes []int
		for i := range names {
			boxes = append(boxes, 8+i)
		}
		answers(t, s, makes(name), api.Event{Number: 2, Kind: api.EventMake, Names: names, Boxes: boxes})
	}
	done(t, s, makes("a/b/c"), drops("a/b/c"), makes("INBOX/x"))
	refuses(t, s, makes("a"), api.ErrThere)
	refuses(t, s, makes("a/b"), api.ErrThere)
	refuses(t, s, makes("inbox/x"), api.ErrThere)
	answers(t, s, makes("A"), api.Event{Number: 5, Kind: api.EventMake, Names: []string{"A"}, Boxes: []int{12}})
	answers(t, s, makes("inbox/X"), api.Event{Number: 5, Kind: api.EventMake, Names: []string{"INBOX/X"}, Boxes: []int{12}})
	answers(t, s, makes("a/b/c"), api.Event{Number: 5, Kind: api.EventMake, Names: []string{"a/b/c"}, Boxes: []int{12}})
	answers(t, s, makes("a/c/d"), api.Event{Number: 5, Kind: api.EventMake, Names: []string{"a/c", "a/c/d"}, Boxes: []int{12, 13}})
}

// P12.2: MaxBoxes mailboxes and one more; what comes ahead of the limit.
func TestMakeLimit(t *testing.T) {
	s := full(t)
	refuses(t, s, makes("x"), api.ErrLimit)
	refuses(t, s, makes("inbox/x"), api.ErrLimit)
	refuses(t, s, makes("b03"), api.ErrThere)
	refuses(t, s, makes("inbox"), api.ErrCannot)
	refuses(t, s, makes("x%"), api.ErrCannot)
	done(t, s, drops("b03"), drops("b04"))
	done(t, s.Twin(), makes("x/y"))
	refuses(t, s, makes("x/y/z"), api.ErrLimit)
	done(t, s, makes("b03/b04"))
	refuses(t, s, makes("x"), api.ErrLimit)
}

// P12.3
func TestDrop(t *testing.T) {
	s := begun(t, 7, 1, 2)
	for _, name := range append(noNames, "q", "a") {
		refuses(t, s, drops(name), api.ErrBox)
	}
	done(t, s, makes("a/b/c"), makes("a-b"), makes("inbox/x"), makes("ab"))
	for name, code := range map[string]api.Errno{
		"a": api.ErrInferior, "a/b": api.ErrInferior, "A": api.ErrBox, "a/b/c/d": api.ErrBox, "a/": api.ErrBox, "INBOX": api.ErrCannot, "inbox": api.ErrCannot, "inbox/X": api.ErrBox,
	} {
		refuses(t, s, drops(name), code)
	}
	for name, box := range map[string]int{"a/b/c": 10, "a-b": 11, "iNBOX/x": 12, "ab": 13} {
		answers(t, s, drops(name), api.Event{Number: 6, Kind: api.EventDrop, Box: box})
	}
	done(t, s, drops("a/b/c"), drops("a/b"), drops("a"))
	refuses(t, s, drops("a"), api.ErrBox)
}

// P12.4
func TestRename(t *testing.T) {
	s := begun(t, 7, 1, 2)
	done(t, s, makes("a/b/c"), makes("a/b-c"), makes("a/B"), makes("ab"), makes("inbox/x")) // 8 9 10, 11, 12, 13, 14
	for _, name := range noNames {
		refuses(t, s, renames("a", name), api.ErrCannot)
		refuses(t, s, renames("q", name), api.ErrCannot)
		refuses(t, s, renames(name, name), api.ErrCannot)
		refuses(t, s, renames(name, "x"), api.ErrBox)
		refuses(t, s, renames(name, "a"), api.ErrBox)
	}
	for _, c := range []struct {
		from, to string
		code     api.Errno
	}{
		{"a", "inbox", api.ErrCannot}, {"q", "INBOX", api.ErrCannot}, {"INBOX", "INBOX", api.ErrCannot}, {"a", "a/c", api.ErrCannot}, {"a", "a/b", api.ErrCannot}, {"q", "q/r", api.ErrCannot},
		{"inbox", "InBox/y", api.ErrCannot}, {"inbox", "inbox/x", api.ErrCannot}, {"a", "1/2/3/4/5", api.ErrCannot}, {"a/b", "1/2/3/4/5/6", api.ErrCannot}, {"a", "b/2/3/4/5/6", api.ErrCannot},
		{"q", "r", api.ErrBox}, {"A", "r", api.ErrBox}, {"q", "a", api.ErrBox}, {"q", "q", api.ErrBox}, {"q", "1/2/3/4/5/6", api.ErrBox},
		{"a", "a", api.ErrThere}, {"a", "ab", api.ErrThere}, {"a/b", "a", api.ErrThere}, {"INBOX", "a", api.ErrThere}, {"a/b", "Inbox/x", api.ErrThere}, {"a/b/c", "a/b", api.ErrThere},
	} {
		refuses(t, s, renames(c.from, c.to), c.code)
	}
	plan := func(from, to string, kind, box int, names ...string) {
		t.Helper()
		e := api.Event{Number: 7, Kind: kind, Box: box, Names: names}
		for i := range names {
			e.Boxes = append(e.Boxes, 15+i)
		}
		answers(t, s, renames(from, to), e)
	}
	plan("a", "z", api.EventRename, 8, "z", "z/B", "z/b", "z/b-c", "z/b/c")
	plan("a", "x/y", api.EventRename, 8, "x", "x/y", "x/y/B", "x/y/b", "x/y/b-c", "x/y/b/c")
	plan("a", "inbox/y", api.EventRename, 8, "INBOX/y", "INBOX/y/B", "INBOX/y/b", "INBOX/y/b-c", "INBOX/y/b/c")
	plan("a", "1/2/3/4", api.EventRename, 8, "1", "1/2", "1/2/3", "1/2/3/4", "1/2/3/4/B", "1/2/3/4/b", "1/2/3/4/b-c", "1/2/3/4/b/c")
	plan("a/b", "ab/c/d", api.EventRename, 9, "ab/c", "ab/c/d", "ab/c/d/c")
	plan("a/b", "a/c", api.EventRename, 9, "a/c", "a/c/c")
	plan("a/b/c", "a/b-c/d", api.EventRename, 10, "a/b-c/d")
	plan("iNBOX/x", "x", api.EventRename, 14, "x")
	plan("a/b/c", "1/2/3/4/5/6", api.EventRename, 10, "1", "1/2", "1/2/3", "1/2/3/4", "1/2/3/4/5", "1/2/3/4/5/6")
	plan("inbox", "old", api.EventInbox, 7, "old")
	plan("INBOX", "a/b/d/e", api.EventInbox, 7, "a/b/d", "a/b/d/e")
	plan("Inbox", "1/2/3/4/5/6", api.EventInbox, 7, "1", "1/2", "1/2/3", "1/2/3/4", "1/2/3/4/5", "1/2/3/4/5/6")
	plan("INBOX", "inboxes", api.EventInbox, 7, "inboxes")
}

// P12.4: MaxBoxes mailboxes and one more.
func TestRenameLimit(t *testing.T) {
	s := full(t)
	answers(t, s, renames("b01", "x"), api.Event{Number: 17, Kind: api.EventRename, Box: 8, Names: []string{"x"}, Boxes: []int{23}})
	answers(t, s, renames("b01", "b02/x"), api.Event{Number: 17, Kind: api.EventRename, Box: 8, Names: []string{"b02/x"}, Boxes: []int{23}})
	refuses(t, s, renames("b01", "x/y"), api.ErrLimit)
	refuses(t, s, renames("INBOX", "x"), api.ErrLimit)
	refuses(t, s, renames("INBOX", "b01"), api.ErrThere)
	refuses(t, s, renames("b00", "x/y"), api.ErrBox)
	done(t, s, drops("b15"))
	done(t, s.Twin(), renames("b01", "x/y"))
	done(t, s.Twin(), renames("INBOX", "x"))
	refuses(t, s, renames("b01", "x/y/z"), api.ErrLimit)
	refuses(t, s, renames("INBOX", "x/y"), api.ErrLimit)

	// All but INBOX lie below one: these move together, which brings none more.
	s = begun(t, 7, 1, 2)
	done(t, s, makes("a"))
	for i := range 14 {
		done(t, s, makes(fmt.Sprintf("a/%02d", i)))
	}
	done(t, s.Twin(), renames("a", "b"))
	refuses(t, s, renames("a", "b/c"), api.ErrLimit)
	refuses(t, s, renames("INBOX", "b"), api.ErrLimit)
}

// P12.5
func TestAdd(t *testing.T) {
	s := begun(t, 7, 40, 2)
	done(t, s, makes("a"))
	for _, name := range noNames {
		refuses(t, s, adds(name, "x"), api.ErrCannot)
	}
	add := func(number, box, uid int, body string, flags ...string) api.Event {
		return api.Event{Number: number, Kind: api.EventAdd, Box: box, First: uid, Marks: []api.Mark{{Uid: uid, Flags: flags}}, Date: day, Body: body}
	}
	answers(t, s, adds("inBOX", ""), add(3, 7, 40, ""))
	answers(t, s, adds("a", "x\r\n\x00", "b", `\SEEN`, "A", `\answered`, "B", "a", `\Seen`), add(3, 8, 40, "x\r\n\x00", `\Answered`, `\Seen`, "A", "b"))
	answers(t, s, adds("a", strings.Repeat("x", api.MaxLiteral)), add(3, 8, 40, strings.Repeat("x", api.MaxLiteral)))
	answers(t, s, adds("a", "", append(words(8), `\seen`, `\flagged`, `\draft`, `\deleted`, `\answered`, "W00", "w01", "w02")...),
		add(3, 8, 40, "", append([]string{`\Answered`, `\Deleted`, `\Draft`, `\Flagged`, `\Seen`}, words(8)...)...))
	done(t, s, adds("a", "one", "Work", "zeBra"))
	answers(t, s, adds("a", "two", "WORK", "New", "ZEBRA", "new"), add(4, 8, 41, "two", "New", "Work", "zeBra"))
	answers(t, s, adds("INBOX", "two", "WORK"), add(4, 7, 40, "two", "WORK"))
	done(t, s, flags(8, 0, []int{40}))
	answers(t, s, adds("a", "two", "WORK"), add(5, 8, 41, "two", "WORK")) // forgotten meanwhile
	done(t, s, expunges(8, 40))
	answers(t, s, adds("a", "two"), add(6, 8, 41, "two")) // a uid never comes again
}

// P12.5: what is refused, and what of several comes first.
func TestAddRefuses(t *testing.T) {
	s := begun(t, 7, 1, 2)
	many := slices.Repeat([]string{"k"}, api.MaxFlags+1)
	long := strings.Repeat("x", api.MaxLiteral+1)
	none := api.Moment{Year: 2026, Month: 2, Day: 29}
	for _, c := range []struct {
		name  string
		flags []string
		date  api.Moment
		body  string
		code  api.Errno
	}{
		{"INBOX", many, day, "", api.ErrLong}, {"INBOX", nil, day, long, api.ErrLong}, {"", many, none, "", api.ErrLong}, {"", []string{"a b"}, none, long, api.ErrLong},
		{"a%", []string{"a b"}, none, "", api.ErrCannot}, {"a%", nil, day, "", api.ErrCannot},
		{"INBOX", []string{"a b"}, none, "", api.ErrMark}, {"q", []string{`\Recent`}, day, "", api.ErrMark}, {"INBOX", []string{"k", `\x`}, day, "", api.ErrMark}, {"INBOX", []string{""}, day, "", api.ErrMark},
		{"INBOX", []string{strings.Repeat("k", 25)}, day, "", api.ErrMark}, {"INBOX", []string{"é"}, day, "", api.ErrMark},
		{"q", nil, none, "", api.ErrArg}, {"INBOX", nil, none, "", api.ErrArg}, {"INBOX", nil, api.Moment{}, "", api.ErrArg}, {"q", nil, day, "", api.ErrBox}, {"q", words(9), day, "", api.ErrBox},
		{"INBOX", words(9), day, "", api.ErrLimit},
	} {
		refuses(t, s, ask{plan: toAdd, name: c.name, flags: c.flags, date: c.date, body: c.body}, c.code)
	}
	for _, turn := range []func(m *api.Moment){
		func(m *api.Moment) { m.Year = 0 }, func(m *api.Moment) { m.Year = 10000 }, func(m *api.Moment) { m.Month = 13 }, func(m *api.Moment) { m.Month = 0 }, func(m *api.Moment) { m.Day = 31 },
		func(m *api.Moment) { m.Hour = 24 }, func(m *api.Moment) { m.Minute = -1 }, func(m *api.Moment) { m.Second = 60 }, func(m *api.Moment) { m.Zone = 1440 }, func(m *api.Moment) { m.Zone = -1440 },
	} {
		date := day
		turn(&date)
		refuses(t, s, ask{plan: toAdd, name: "INBOX", date: date}, api.ErrArg)
	}
	for _, date := range []api.Moment{{Year: 1, Month: 1, Day: 1, Zone: 1439}, {Year: 9999, Month: 12, Day: 31, Hour: 23, Minute: 59, Second: 59, Zone: -1439}, {Year: 2024, Month: 2, Day: 29}} {
		done(t, s, ask{plan: toAdd, name: "INBOX", date: date})
	}
}

// P12.5: MaxMails messages and one more, MaxKeywords and one more.
func TestAddLimit(t *testing.T) {
	s := begun(t, 7, 1, 2)
	done(t, s, makes("a"), makes("b"))
	for range api.MaxMails {
		done(t, s, adds("a", ""))
	}
	refuses(t, s, adds("a", ""), api.ErrLimit)
	refuses(t, s, adds("a", "", `\Recent`), api.ErrMark)
	done(t, s, adds("INBOX", ""), expunges(8, 64), adds("a", ""))
	for _, word := range words(7) {
		done(t, s, adds("b", "", word))
	}
	refuses(t, s, adds("b", "", "new", "newer"), api.ErrLimit)
	done(t, s, adds("b", "", "new", "W03", `\Seen`))
	refuses(t, s, adds("b", "", "newer"), api.ErrLimit)
	done(t, s, adds("b", "", "NEW", "W00", "W01", "W02", "W03", "W04", "W05", "W06"))
	if b, _ := s.Box("b"); !slices.Equal(b.Keywords, []string{"new", "w00", "w01", "w02", "w03", "w04", "w05", "w06"}) {
		t.Errorf("keywords: %v", b.Keywords)
	}
	done(t, s, expunges(9, 8, 9))
	done(t, s, adds("b", "", "newer"))
}

// mixed is a store (7, 1, 2) with a (8) of three messages: 1 Seen Work (modseq 3), 2 Draft (4), 3 Work zed (5).
func mixed(t *testing.T) *store.Store {
	t.Helper()
	s := begun(t, 7, 1, 2)
	done(t, s, makes("a"), adds("a", "one", `\Seen`, "Work"), adds("a", "two", `\Draft`), adds("a", "three", "work", "zed"))
	return s
}

// P12.6
func TestFlags(t *testing.T) {
	s := mixed(t)
	marks := func(a ask, left []int, marks ...api.Mark) {
		t.Helper()
		says(t, s, a, answer{e: api.Event{Number: 6, Kind: api.EventFlags, Box: 8, Marks: marks}, left: left})
	}
	since := func(a ask, unchanged int) ask {
		a.unchanged = unchanged
		return a
	}
	mark := func(uid int, list ...string) api.Mark { return api.Mark{Uid: uid, Flags: list} }
	all := []int{1, 2, 3}
	marks(flags(8, 0, all, "WORK"), nil, mark(1, "Work"), mark(2, "Work"), mark(3, "Work"))
	marks(flags(8, 0, all, "WORK", `\seen`), nil, mark(2, `\Seen`, "Work"), mark(3, `\Seen`, "Work"))
	marks(flags(8, 0, all), nil, mark(1), mark(2), mark(3))
	marks(flags(8, 1, all, "New", "new", "ZED", `\DRAFT`), nil, mark(1, `\Draft`, `\Seen`, "New", "Work", "zed"), mark(2, `\Draft`, "New", "zed"), mark(3, `\Draft`, "New", "Work", "zed"))
	marks(flags(8, 1, []int{2}, "A", "z"), nil, mark(2, `\Draft`, "A", "z"))
	marks(flags(8, -1, all, "WORK", `\dRAFT`, "other"), nil, mark(1, `\Seen`), mark(2), mark(3, "zed"))
	marks(flags(8, -1, []int{1, 3}, "Zed"), nil, mark(3, "Work"))
	nothing(t, s, flags(8, 1, []int{1, 3}, "WORK"))
	nothing(t, s, flags(8, 0, []int{1}, "wORK", `\SEEN`))
	nothing(t, s, flags(8, -1, all, "other", `\Answered`))
	nothing(t, s, flags(8, 0, nil, "k"))
	nothing(t, s, flags(8, 1, all))

	nothing(t, s, since(flags(8, 0, all, "k"), 0), 1, 2, 3)
	nothing(t, s, since(flags(8, 0, all, "k"), 2), 1, 2, 3)
	marks(since(flags(8, 0, all, "k"), 3), []int{2, 3}, mark(1, "k"))
	marks(since(flags(8, 0, all, "k"), 4), []int{3}, mark(1, "k"), mark(2, "k"))
	marks(since(flags(8, 0, all, "k"), 5), nil, mark(1, "k"), mark(2, "k"), mark(3, "k"))
	marks(since(flags(8, 0, all, "k"), api.MaxNumber), nil, mark(1, "k"), mark(2, "k"), mark(3, "k"))
	nothing(t, s, since(flags(8, 1, all, "Work"), 1), 1, 2, 3)
	nothing(t, s, since(flags(8, 1, []int{1, 3}, "Work"), 3), 3)
	nothing(t, s, since(flags(8, 0, nil), 0))
}

// P12.6: what is refused, and what of several comes first.
func TestFlagsRefuses(t *testing.T) {
	s := mixed(t)
	for _, c := range []struct {
		box   int
		uids  []int
		mode  int
		flags []string
		since int
		code  api.Errno
	}{
		{8, make([]int, 65), 5, []string{""}, -9, api.ErrLong}, {5, nil, 5, make([]string, 17), -9, api.ErrLong}, {8, make([]int, 65), 0, nil, -1, api.ErrLong}, {8, nil, 0, slices.Repeat([]string{"k"}, 17), -1, api.ErrLong},
		{8, nil, 2, []string{""}, -9, api.ErrArg}, {8, []int{1}, -2, nil, -1, api.ErrArg}, {8, []int{1}, least, nil, -1, api.ErrArg}, {5, []int{1}, most, nil, -1, api.ErrArg},
		{5, []int{9}, 0, []string{`\Recent`}, -9, api.ErrMark}, {8, []int{1}, -1, []string{"a b"}, -1, api.ErrMark}, {8, []int{1}, 0, []string{"k", "("}, -1, api.ErrMark},
		{5, []int{9}, 0, nil, -2, api.ErrNumber}, {8, []int{1}, 0, nil, least, api.ErrNumber}, {8, []int{1}, 0, nil, api.MaxNumber + 1, api.ErrNumber}, {8, []int{1}, 0, nil, most, api.ErrNumber},
		{5, []int{9}, 0, nil, -1, api.ErrBox}, {5, nil, 0, nil, -1, api.ErrBox}, {0, nil, 0, nil, -1, api.ErrBox}, {-8, nil, 0, nil, -1, api.ErrBox}, {9, []int{1}, 0, nil, -1, api.ErrBox},
		{7, []int{1}, 0, nil, -1, api.ErrUid}, {8, []int{4}, 0, nil, -1, api.ErrUid}, {8, []int{0, 1}, 0, nil, -1, api.ErrUid}, {8, []int{2, 1}, 0, nil, -1, api.ErrUid}, {8, []int{1, 1}, 0, nil, -1, api.ErrUid},
		{8, []int{1, 2, 9}, 0, nil, 0, api.ErrUid}, {8, []int{-1}, 0, nil, -1, api.ErrUid}, {8, []int{least, most}, 0, words(9), -1, api.ErrUid},
		{8, []int{1}, 1, words(9), -1, api.ErrLimit},
	} {
		refuses(t, s, ask{plan: toFlag, box: c.box, uids: c.uids, mode: c.mode, flags: c.flags, unchanged: c.since}, c.code)
	}
}

// P12.6: MaxKeywords and one more, counted behind the event.
func TestFlagsLimit(t *testing.T) {
	s := mixed(t) // knows Work, zed
	refuses(t, s, flags(8, 1, []int{2}, words(7)...), api.ErrLimit)
	refuses(t, s, flags(8, 0, []int{1, 2}, words(7)...), api.ErrLimit)           // 3 has Work and zed still
	done(t, s.Twin(), flags(8, 0, []int{1, 3}, words(8)...))                     // these forget them
	refuses(t, s, flags(8, 0, []int{1, 3}, words(9)...), api.ErrLimit)           // by themselves too many
	nothing(t, s, flags(8, -1, []int{2}, words(9)...))                           // what is taken away does not count
	done(t, s.Twin(), flags(8, -1, []int{1}, append(words(9), `\Seen`)...))      // nor here
	done(t, s, flags(8, 1, []int{2}, append(words(6), "WORK", "Zed")...))        // eight
	refuses(t, s, flags(8, 1, []int{1}, "new"), api.ErrLimit)                    // a ninth
	nothing(t, s, ask{plan: toFlag, box: 8, uids: []int{1}, flags: words(9)}, 1) // left out: never ErrLimit
	done(t, s, flags(8, 1, []int{1, 3}, "W01", `\Deleted`))
	done(t, s, flags(8, -1, []int{2}, "W05"))
	done(t, s, flags(8, 1, []int{1}, "new"))
	refuses(t, s, flags(8, 1, []int{1}, "newer"), api.ErrLimit)
	done(t, s, flags(8, 0, []int{1, 2, 3}))
	done(t, s, flags(8, 1, []int{1}, words(8)...))

	s = begun(t, 7, 1, 2)
	for range api.MaxMails {
		done(t, s, adds("INBOX", ""))
	}
	if got := flags(7, 0, upTo(64), append(words(8), `\Seen`)...).of(s); got.code != api.OK || len(got.e.Marks) != 64 || s.Apply(got.e) != api.OK {
		t.Errorf("MaxMails messages: %v", got)
	}
	refuses(t, s, flags(7, 0, upTo(65)), api.ErrLong)
}

// P12.7
func TestExpunge(t *testing.T) {
	s := mixed(t)
	answers(t, s, expunges(8, 1, 3), api.Event{Number: 6, Kind: api.EventExpunge, Box: 8, Uids: []int{1, 3}})
	answers(t, s, expunges(8, 2), api.Event{Number: 6, Kind: api.EventExpunge, Box: 8, Uids: []int{2}})
	nothing(t, s, expunges(8))
	nothing(t, s, expunges(7))
	refuses(t, s, expunges(5), api.ErrBox)
	refuses(t, s, expunges(5, 3, 1), api.ErrBox)
	refuses(t, s, expunges(0, 1), api.ErrBox)
	refuses(t, s, expunges(5, make([]int, 65)...), api.ErrLong)
	for _, uids := range [][]int{{4}, {0}, {-1}, {1, 1}, {2, 1}, {1, 2, 3, 4}, {3, 2, 1}, {most}, {least}, make([]int, 64)} {
		refuses(t, s, expunges(8, uids...), api.ErrUid)
	}
	refuses(t, s, expunges(7, 1), api.ErrUid)
	done(t, s, expunges(8, 2))
	refuses(t, s, expunges(8, 2), api.ErrUid)
	refuses(t, s, expunges(8, 1, 2, 3), api.ErrUid)
	done(t, s, expunges(8, 1, 3))
	nothing(t, s, expunges(8))
}

// P12.8
func TestCopyAndMove(t *testing.T) {
	s := mixed(t)
	done(t, s, makes("b"), adds("b", "")) // 9, 10 would be next
	for kind, carry := range map[int]func(box int, name string, uids ...int) ask{api.EventCopy: copies, api.EventMove: moves} {
		answers(t, s, carry(8, "inBOX", 1, 3), api.Event{Number: 8, Kind: kind, Box: 8, To: 7, Uids: []int{1, 3}, First: 1})
		answers(t, s, carry(8, "b", 2), api.Event{Number: 8, Kind: kind, Box: 8, To: 9, Uids: []int{2}, First: 2})
		answers(t, s, carry(8, "a", 1, 2, 3), api.Event{Number: 8, Kind: kind, Box: 8, To: 8, Uids: []int{1, 2, 3}, First: 4})
		nothing(t, s, carry(8, "a"))
		nothing(t, s, carry(7, "b"))
		for _, name := range noNames {
			refuses(t, s, carry(8, name, 1), api.ErrCannot)
			refuses(t, s, carry(5, name, 3, 1), api.ErrCannot)
			refuses(t, s, carry(5, name, make([]int, 65)...), api.ErrLong)
		}
		refuses(t, s, carry(8, "q"), api.ErrBox)
		refuses(t, s, carry(8, "q", 3, 1), api.ErrBox)
		refuses(t, s, carry(5, "a"), api.ErrBox)
		refuses(t, s, carry(5, "a", 3, 1), api.ErrBox)
		refuses(t, s, carry(0, "a", 1), api.ErrBox)
		refuses(t, s, carry(8, "q", make([]int, 65)...), api.ErrLong)
		for _, uids := range [][]int{{4}, {0}, {1, 1}, {2, 1}, {1, 4}, {most}, {least}} {
			refuses(t, s, carry(8, "b", uids...), api.ErrUid)
			refuses(t, s, carry(8, "a", uids...), api.ErrUid)
		}
		refuses(t, s, carry(7, "a", 1), api.ErrUid)
	}
}

// P12.8: a target that would be full, by messages and by keywords.
func TestCopyAndMoveLimit(t *testing.T) {
	s := mixed(t)
	done(t, s, makes("b"))
	for range api.MaxMails - 2 {
		done(t, s, adds("b", ""))
	}
	both := []func(box int, name string, uids ...int) ask{copies, moves}
	for _, carry := range both {
		refuses(t, s, carry(8, "b", 1, 2, 3), api.ErrLimit)
		refuses(t, s, carry(8, "b", 1, 2, 4), api.ErrUid)
		done(t, s.Twin(), carry(8, "b", 2, 3))
		done(t, s.Twin(), carry(9, "a", upTo(61)...))
		refuses(t, s, carry(9, "a", upTo(62)...), api.ErrLimit)
	}
	done(t, s, copies(9, "b", 1, 2)) // 64
	refuses(t, s, copies(9, "b", 1), api.ErrLimit)
	refuses(t, s, copies(8, "b", 1), api.ErrLimit)
	refuses(t, s, moves(8, "b", 1), api.ErrLimit)
	nothing(t, s, copies(8, "b"))
	done(t, s.Twin(), moves(9, "b", upTo(64)...))
	done(t, s, moves(9, "b", 1, 64))

	s = mixed(t)
	done(t, s, makes("c"), adds("c", "", words(6)...))
	for _, carry := range both {
		done(t, s.Twin(), carry(8, "c", 1, 3)) // Work, zed
	}
	done(t, s, adds("c", "", "wORK"))
	for _, carry := range both {
		done(t, s.Twin(), carry(8, "c", 1, 2, 3))
	}
	done(t, s, adds("c", "", "new"))
	for _, carry := range both {
		done(t, s.Twin(), carry(8, "c", 1, 2))
		refuses(t, s, carry(8, "c", 1, 2, 3), api.ErrLimit)
		refuses(t, s, carry(8, "c", 3), api.ErrLimit)
		done(t, s.Twin(), carry(9, "c", 1)) // eight that it knows already
	}
}

// P12.9
func TestSubscribe(t *testing.T) {
	s := begun(t, 7, 1, 2)
	done(t, s, makes("a/b"))
	for _, name := range noNames {
		refuses(t, s, subscribes(name), api.ErrBox)
		refuses(t, s, unsubscribes(name), api.ErrBox)
	}
	for _, name := range []string{"q", "A", "a/c", "inbox/x"} {
		refuses(t, s, subscribes(name), api.ErrBox)
		nothing(t, s, unsubscribes(name))
	}
	nothing(t, s, unsubscribes("a"))
	nothing(t, s, unsubscribes("inbox"))
	answers(t, s, subscribes("inBox"), api.Event{Number: 3, Kind: api.EventSubscribe, Name: "INBOX"})
	answers(t, s, subscribes("a/b"), api.Event{Number: 3, Kind: api.EventSubscribe, Name: "a/b"})
	done(t, s, subscribes("inbox"), subscribes("a/b"))
	nothing(t, s, subscribes("INBOX"))
	nothing(t, s, subscribes("a/b"))
	answers(t, s, unsubscribes("Inbox"), api.Event{Number: 5, Kind: api.EventUnsubscribe, Name: "INBOX"})
	done(t, s, drops("a/b"))
	refuses(t, s, subscribes("a/b"), api.ErrBox) // a subscription outlives its mailbox, but begins with none
	answers(t, s, unsubscribes("a/b"), api.Event{Number: 6, Kind: api.EventUnsubscribe, Name: "a/b"})
	done(t, s, unsubscribes("a/b"))
	nothing(t, s, unsubscribes("a/b"))
}

// P12.9: MaxSubs names and one more.
func TestSubscribeLimit(t *testing.T) {
	s := begun(t, 7, 1, 2)
	for i := range api.MaxSubs {
		name := fmt.Sprintf("m%02d", i)
		done(t, s, makes(name), subscribes(name), drops(name))
	}
	refuses(t, s, subscribes("INBOX"), api.ErrLimit)
	refuses(t, s, subscribes("m05"), api.ErrBox)
	done(t, s, makes("m05"))
	nothing(t, s, subscribes("m05"))
	done(t, s, unsubscribes("m07"), subscribes("INBOX"))
	done(t, s, makes("m07"))
	refuses(t, s, subscribes("m07"), api.ErrLimit)
}
