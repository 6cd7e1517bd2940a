package store_test

import (
	"fmt"
	"slices"
	"strings"
	"testing"

	"postbag/api"
	"postbag/store"
)

// thaws: a text is a frozen store, which freezes to that text again.
func thaws(t *testing.T, why, text string) *store.Store {
	t.Helper()
	s, code := store.Thaw(text)
	if code != api.OK || s == nil {
		t.Fatalf("%s: Thaw: %d", why, code)
	}
	if s.Freeze() != text {
		t.Errorf("%s: frozen again: %.200q, not %.200q", why, s.Freeze(), text)
	}
	return s
}

func stays(t *testing.T, why, text string) {
	t.Helper()
	if s, code := store.Thaw(text); s != nil || code != api.ErrThaw {
		t.Errorf("%s: Thaw(%.100q): %v, %d", why, text, s, code)
	}
}

// P12.12: the bytes, written out.
func TestFreeze(t *testing.T) {
	s := begun(t, 7, 1, 2)
	if got, want := s.Freeze(), "\x01\x08\x01\x00\x01\x05INBOX\x07\x01\x01\x00\x00"; got != want {
		t.Errorf("a new store: %q, not %q", got, want)
	}
	done(t, s, makes("a/b"), adds("a", "x", `\Seen`, "Work", "b"), adds("INBOX", strings.Repeat("y", 130), `\Answered`, `\Deleted`, `\Draft`, `\Flagged`), copies(8, "INBOX", 1), subscribes("a"), subscribes("INBOX"))
	date := "\xea\x0f\x0b\x0e\x11\x00\x00\xc0\x07"
	want := "\x01\x0a\x07" +
		"\x02\x03\x01x\x04\x82\x01" + strings.Repeat("y", 130) +
		"\x03\x05INBOX\x07\x03\x05\x02" + "\x01\x04\x04" + date + "\x0f\x00" + "\x02\x05\x03" + date + "\x10\x02\x01b\x04Work" +
		"\x01a\x08\x02\x03\x01" + "\x01\x03\x03" + date + "\x10\x02\x01b\x04Work" +
		"\x03a/b\x09\x01\x02\x00" +
		"\x02\x05INBOX\x01a"
	if got := s.Freeze(); got != want {
		t.Errorf("%q, not %q", got, want)
	}
	s = begun(t, end, end, end)
	done(t, s, ask{plan: toAdd, name: "INBOX", date: api.Moment{Year: 9999, Month: 12, Day: 31, Hour: 23, Minute: 59, Second: 58, Zone: -1439}})
	want = "\xfe\xff\xff\xff\x0f\xff\xff\xff\xff\x0f\xfe\xff\xff\xff\x0f\x01\xfe\xff\xff\xff\x0f\x00\x01\x05INBOX\xfe\xff\xff\xff\x0f\xff\xff\xff\xff\x0f\xfe\xff\xff\xff\x0f\x01" +
		"\xfe\xff\xff\xff\x0f\xfe\xff\xff\xff\x0f\xfe\xff\xff\xff\x0f\x8f\x4e\x0c\x1f\x17\x3b\x3a\x01\x00\x00\x00"
	if got := s.Freeze(); got != want {
		t.Errorf("%q, not %q", got, want)
	}
	thaws(t, "all numbers at their end", want)
	for _, s := range []*store.Store{ample(t), rich(t), mixed(t), full(t)} {
		if m := thawed(t, s); m.freeze() != s.Freeze() || m.told() != told(s) {
			t.Errorf("%q, not %q", s.Freeze(), m.freeze())
		}
	}
}

// P12.12: a body is written once for all its copies, and no more when the last of them has gone.
func TestFreezeBodies(t *testing.T) {
	s := begun(t, 7, 1, 2)
	body := strings.Repeat("body", 100)
	done(t, s, adds("INBOX", body), copies(7, "INBOX", 1), makes("a"), copies(7, "a", 1, 2), adds("INBOX", body))
	if got := strings.Count(s.Freeze(), body); got != 2 {
		t.Errorf("%d bodies", got)
	}
	done(t, s, expunges(7, 1, 2, 3), moves(8, "INBOX", 2), drops("a"))
	if got := strings.Count(s.Freeze(), body); got != 1 {
		t.Errorf("%d bodies", got)
	}
	done(t, s, expunges(7, 4))
	if got := strings.Count(s.Freeze(), body); got != 0 {
		t.Errorf("%d bodies", got)
	}
}

// P12.13: texts cut off at every place, with bytes left over, with every byte turned into every other one, with a byte put in or taken out.
func TestThawTorn(t *testing.T) {
	t.Parallel()
	for _, s := range []*store.Store{ample(t), begun(t, 7, 1, 2)} {
		text := s.Freeze()
		thaws(t, "whole", text)
		for i := range len(text) {
			stays(t, "cut", text[:i])
			stays(t, "without its beginning", text[i+1:])
		}
		for b := range 256 {
			stays(t, "a byte more", text+string([]byte{byte(b)}))
		}
		stays(t, "twice", text+text)
		taken := 0
		hold := func(why, text string) {
			_, want := slowThaw(text)
			if s, code := store.Thaw(text); want {
				taken++
				thaws(t, why, text)
			} else if s != nil || code != api.ErrThaw {
				t.Errorf("%s: Thaw(%q): %d", why, text, code)
			}
		}
		for i := range len(text) {
			for b := range 256 {
				hold("turned", text[:i]+string([]byte{byte(b)})+text[i+1:])
			}
			for _, b := range []byte{0, 1, 2, 3, 16, '/', 'a', 127, 128, 129, 255} {
				hold("put in", text[:i]+string([]byte{b})+text[i:])
			}
			hold("taken out", text[:i]+text[i+1:])
		}
		if taken < len(text) {
			t.Errorf("only %d of the turned texts are taken", taken)
		}
	}
}

// P12.13: numbers with a byte 0 at their end, and such as no store has.
func TestThawNumbers(t *testing.T) {
	c := thawed(t, ample(t)).cold()
	text := c.write(-1)
	thaws(t, "not padded", text)
	padded := 1
	for ; c.write(padded) != text; padded++ {
		stays(t, fmt.Sprintf("number %d padded", padded), c.write(padded))
	}
	if padded < 80 {
		t.Errorf("only %d numbers", padded)
	}
	rest := "\x00\x01\x05INBOX\x07\x01\x01\x00\x00"
	thaws(t, "plain", "\x01\x08\x01"+rest)
	for _, number := range []string{"\x80", "\x81\x00", "\x81\x80\x00", "\x81\x80\x80\x80\x80\x00", "\xff\xff\xff\xff\x7f", "\xff\xff\xff\xff\xff\x7f", "\xff\xff\xff\xff\xff\xff\xff\xff\x7f", strings.Repeat("\xff", 9) + "\x01", "\x81" + strings.Repeat("\x80", 8) + "\x02", strings.Repeat("\x80", 100) + "\x01"} {
		for at := range 3 {
			head := []string{"\x01", "\x08", "\x01"}
			head[at] = number
			stays(t, "a number", strings.Join(head, "")+rest)
		}
		stays(t, "how many bodies", "\x01\x08\x01"+number+rest[1:])
		stays(t, "how many boxes", "\x01\x08\x01\x00"+number+rest[2:])
		stays(t, "a text's length", "\x01\x08\x01\x00\x01"+number+rest[3:])
		stays(t, "how many names", "\x01\x08\x01"+rest[:len(rest)-1]+number)
	}
	for _, text := range []string{"\x00", "\x01", strings.Repeat("\x00", 100), strings.Repeat("\x01", 1000), strings.Repeat("\xff", 5000), strings.Repeat("\x7f", 5000), strings.Repeat("\x00", api.MaxFrame)} {
		stays(t, "nonsense", text)
	}
}

// sound is a frozen store to be forged: INBOX (7) with 1 (origin 3), 2 (origin 4, its modseq 6); a (8) with 5 (origin 3); a/b (9); names INBOX, gone.
func sound() *cold {
	return &cold{
		first: 1, validity: 12, last: 9, bodies: []coldBody{{3, "one"}, {4, ""}}, names: []string{"INBOX", "gone"},
		boxes: []coldBox{
			{"INBOX", 7, 3, 6, []coldMail{{1, 5, 3, day, 17, []string{"Work"}}, {2, 6, 4, day, 0, []string{"b", "Work"}}}},
			{"a", 8, 6, 7, []coldMail{{5, 7, 3, day, 31, nil}}},
			{"a/b", 9, 1, 9, nil},
		},
	}
}

// P12.13: forged stores that break one rule each, and such that stand right at the rule's bound.
func TestThawForged(t *testing.T) {
	many := func(n int, from coldMail) []coldMail {
		var out []coldMail
		for i := range n {
			from.uid = i + 1
			out = append(out, from)
		}
		return out
	}
	boxes := func(n int) []coldBox {
		var out []coldBox
		for i := range n {
			out = append(out, coldBox{fmt.Sprintf("b%02d", i), 20 + i, 1, 1, nil})
		}
		return out
	}
	plain := coldMail{1, 5, 3, day, 0, nil}
	for why, forge := range map[string]func(c *cold){
		"first uid 0": func(c *cold) { c.first = 0 }, "first uid at the end": func(c *cold) { c.first = end + 1 }, "Last 0": func(c *cold) { c.last = 0 }, "Last at the end": func(c *cold) { c.last = end + 1 },
		"Last below a highest": func(c *cold) { c.last = 8 }, "next validity at a validity": func(c *cold) { c.validity = 9 }, "next validity 0": func(c *cold) { c.validity = 0 }, "next validity too great": func(c *cold) { c.validity = end + 2 },
		"a body that no message has": func(c *cold) { c.bodies = append(c.bodies, coldBody{5, "x"}) }, "a body ahead that no message has": func(c *cold) { c.bodies = append([]coldBody{{2, "x"}}, c.bodies...) },
		"no body": func(c *cold) { c.bodies = c.bodies[:1] }, "no bodies": func(c *cold) { c.bodies = nil }, "bodies that fall": func(c *cold) { slices.Reverse(c.bodies) }, "a body twice": func(c *cold) { c.bodies = append([]coldBody{c.bodies[0]}, c.bodies...) },
		"an origin twice": func(c *cold) { c.bodies = []coldBody{{3, "one"}, {3, "two"}, {4, ""}} }, "a long body": func(c *cold) { c.bodies[1].body = strings.Repeat("x", api.MaxLiteral+1) },
		"no mailboxes": func(c *cold) { c.boxes = nil; c.bodies = nil },
		"no INBOX":     func(c *cold) { c.boxes = c.boxes[1:]; c.bodies = c.bodies[:1] },
		"inbox": func(c *cold) {
			c.boxes[0].name = "inbox"
			slices.Reverse(c.boxes[:1])
			c.boxes = append(c.boxes[1:], c.boxes[0])
		},
		"Inbox in its place":     func(c *cold) { c.boxes[0].name = "Inbox" },
		"no superior":            func(c *cold) { c.boxes[2].name = "c/b" },
		"half a superior":        func(c *cold) { c.boxes[2].name = "a/b/c" },
		"inbox below in case":    func(c *cold) { c.boxes[2].name = "inbox/b" },
		"mailboxes that fall":    func(c *cold) { c.boxes[1], c.boxes[2] = c.boxes[2], c.boxes[1] },
		"INBOX not in its place": func(c *cold) { c.boxes[0], c.boxes[1] = c.boxes[1], c.boxes[0] },
		"a name twice":           func(c *cold) { c.boxes[2].name = "a" },
		"INBOX twice":            func(c *cold) { c.boxes[1].name = "INBOX"; c.boxes = c.boxes[:2] },
		"a validity twice":       func(c *cold) { c.boxes[2].validity = 8 },
		"INBOX's validity twice": func(c *cold) { c.boxes[2].validity = 7 },
		"validity 0":             func(c *cold) { c.boxes[0].validity = 0 },
		"a great validity":       func(c *cold) { c.boxes[0].validity = 12 },
		"17 mailboxes":           func(c *cold) { c.validity = 99; c.boxes = append(c.boxes, boxes(14)...) },
		"next 0":                 func(c *cold) { c.boxes[2].next = 0 }, "next too great": func(c *cold) { c.boxes[2].next = end + 2 }, "next at a uid": func(c *cold) { c.boxes[1].next = 5 }, "next below a uid": func(c *cold) { c.boxes[1].next = 2 },
		"highest 0": func(c *cold) { c.boxes[2].highest = 0 }, "highest above Last": func(c *cold) { c.boxes[2].highest = 10 }, "highest below a modseq": func(c *cold) { c.boxes[1].highest = 6 }, "highest below the last modseq": func(c *cold) { c.boxes[0].highest = 5 },
		"uid 0": func(c *cold) { c.boxes[0].mails[0].uid = 0 }, "uids that fall": func(c *cold) { c.boxes[0].mails[0].uid = 2; c.boxes[0].mails[1].uid = 1 }, "a uid twice": func(c *cold) { c.boxes[0].mails[0].uid = 2 },
		"origin above modseq": func(c *cold) { c.boxes[0].mails[0].modseq = 2 }, "modseq 0": func(c *cold) { c.boxes[0].mails[0].modseq = 0 }, "origin 1": func(c *cold) { c.bodies[0].origin = 1; c.boxes[0].mails[0].origin = 1; c.boxes[1].mails[0].origin = 1 },
		"origin 0": func(c *cold) { c.bodies[0].origin = 0; c.boxes[0].mails[0].origin = 0; c.boxes[1].mails[0].origin = 0 }, "another origin": func(c *cold) { c.boxes[0].mails[1].origin = 5 },
		"65 messages":      func(c *cold) { c.boxes[1].next = 66; c.boxes[1].mails = many(65, plain) },
		"flags of 32":      func(c *cold) { c.boxes[0].mails[0].system = 32 },
		"flags of 2^20":    func(c *cold) { c.boxes[0].mails[0].system = 1 << 20 },
		"words that fall":  func(c *cold) { c.boxes[0].mails[1].words = []string{"Work", "b"} },
		"words in bytes":   func(c *cold) { c.boxes[0].mails[0].words = []string{"B", "a"} },
		"a word twice":     func(c *cold) { c.boxes[0].mails[1].words = []string{"b", "b"} },
		"a word in case":   func(c *cold) { c.boxes[0].mails[1].words = []string{"b", "WORK"} },
		"both in one":      func(c *cold) { c.boxes[0].mails[1].words = []string{"B", "b"} },
		"a system word":    func(c *cold) { c.boxes[0].mails[1].words = []string{`\Draft`} },
		"a system's twin":  func(c *cold) { c.boxes[0].mails[0].words = []string{`\Answered`, "Work"} },
		"a small one":      func(c *cold) { c.boxes[0].mails[1].words = []string{`\seen`} },
		"no word":          func(c *cold) { c.boxes[0].mails[1].words = []string{"a b"} },
		"an empty word":    func(c *cold) { c.boxes[0].mails[1].words = []string{""} },
		"a long word":      func(c *cold) { c.boxes[0].mails[1].words = []string{strings.Repeat("k", 25)} },
		"Recent":           func(c *cold) { c.boxes[0].mails[1].words = []string{`\Recent`} },
		"nine words":       func(c *cold) { c.boxes[1].mails[0].words = words(9) },
		"nine words known": func(c *cold) { c.boxes[0].mails[1].words = words(8) },
		"month 0":          func(c *cold) { c.boxes[0].mails[0].date.Month = 0 }, "year 0": func(c *cold) { c.boxes[0].mails[0].date.Year = 0 }, "year 10000": func(c *cold) { c.boxes[0].mails[0].date.Year = 10000 }, "day 31": func(c *cold) { c.boxes[0].mails[0].date.Day = 31 },
		"hour 24": func(c *cold) { c.boxes[0].mails[0].date.Hour = 24 }, "minute 60": func(c *cold) { c.boxes[0].mails[0].date.Minute = 60 }, "second 60": func(c *cold) { c.boxes[0].mails[0].date.Second = 60 },
		"zone -1440": func(c *cold) { c.boxes[0].mails[0].date.Zone = -1440 }, "zone 1440": func(c *cold) { c.boxes[0].mails[0].date.Zone = 1440 },
		"names that fall": func(c *cold) { slices.Reverse(c.names) }, "a subscription twice": func(c *cold) { c.names = []string{"INBOX", "INBOX"} }, "a subscription to inbox": func(c *cold) { c.names = []string{"inbox"} },
		"a subscription below inbox": func(c *cold) { c.names = []string{"inBOX/a"} }, "33 subscriptions": func(c *cold) { c.names = words(33) },
	} {
		c := sound()
		forge(c)
		if c.holds() {
			t.Errorf("%s: the other make takes it", why)
		}
		stays(t, why, c.write(-1))
	}
	for _, name := range noNames {
		c := sound()
		c.boxes[2].name = name
		stays(t, "a mailbox's name", c.write(-1))
		c = sound()
		c.names = []string{name}
		stays(t, "a subscription's name", c.write(-1))
	}
	for why, forge := range map[string]func(c *cold){
		"as it is": func(c *cold) {}, "ends": func(c *cold) { c.first, c.last, c.validity = end, end, end+1 }, "first uid above all": func(c *cold) { c.first = 1000 }, "validities": func(c *cold) { c.boxes[0].validity, c.boxes[1].validity = 11, 1 },
		"16 mailboxes": func(c *cold) { c.validity = 99; c.boxes = append(c.boxes, boxes(13)...) }, "next at its end": func(c *cold) { c.boxes[1].next = end + 1; c.boxes[1].mails[0].uid = end }, "highest Last": func(c *cold) { c.boxes[0].highest = 9 },
		"origin 2": func(c *cold) { c.bodies[0].origin = 2; c.boxes[0].mails[0].origin = 2; c.boxes[1].mails[0].origin = 2 }, "modseq at its origin": func(c *cold) { c.boxes[0].mails[0].modseq = 3 },
		"64 messages": func(c *cold) { c.boxes[1].next = 65; c.boxes[1].mails = many(64, plain) }, "eight words": func(c *cold) { c.boxes[1].mails[0].words = words(8) }, "eight words known": func(c *cold) { c.boxes[0].mails[1].words = words(7) },
		"32 subscriptions": func(c *cold) { c.names = words(32) }, "other dates of one origin": func(c *cold) { c.boxes[0].mails[0].date = api.Moment{Year: 1, Month: 1, Day: 1, Zone: 1439} }, "the longest body": func(c *cold) { c.bodies[1].body = strings.Repeat("x", api.MaxLiteral) },
		"the longest name": func(c *cold) { c.names = []string{longest} }, "other words elsewhere": func(c *cold) { c.boxes[1].mails[0].words = []string{"WORK"} }, "Last above all": func(c *cold) { c.last = 5000 }, "next validity above all": func(c *cold) { c.validity = 5000 },
		"no subscriptions": func(c *cold) { c.names = nil }, "next at 1": func(c *cold) { c.boxes[2].next = 1 }, "INBOX alone": func(c *cold) { c.boxes = c.boxes[:1] }, "a name of a keyword": func(c *cold) { c.boxes[0].mails[1].words = []string{"NIL", "Work"} },
	} {
		c := sound()
		if forge(c); !c.holds() {
			t.Errorf("%s: the other make refuses it", why)
		}
		s := thaws(t, why, c.write(-1))
		if got, want := told(s), c.thaw().told(); got != want {
			t.Errorf("%s:\n%s\nnot\n%s", why, got, want)
		}
	}
}

// P12.13, P12.18: MaxFrame bytes, and one more.
func TestThawLong(t *testing.T) {
	build := func(size int) *store.Store {
		s := begun(t, 7, 1, 2)
		done(t, s, makes("a"), makes("b"), makes("c"))
		for i := range 127 {
			done(t, s, adds([]string{"a", "b"}[i%2], strings.Repeat("x", api.MaxLiteral)))
		}
		short := func(body int) *store.Store {
			twin := s.Twin()
			done(t, twin, adds("c", strings.Repeat("y", body)))
			return twin
		}
		rest := size - len(short(5000).Freeze())
		return short(5000 + rest)
	}
	for _, more := range []int{-1, 0} {
		s := build(api.MaxFrame + more)
		if len(s.Freeze()) != api.MaxFrame+more {
			t.Fatalf("%d bytes", len(s.Freeze()))
		}
		twin := thaws(t, "long", s.Freeze())
		done(t, s, adds("c", "z"))
		done(t, twin, adds("c", "z"))
		if s.Freeze() != twin.Freeze() {
			t.Error("it goes on otherwise")
		}
		if got, code := store.Thaw(s.Freeze()); got != nil || code != api.ErrLong {
			t.Errorf("too long: %v, %d", got, code)
		}
	}
	if s, code := store.Thaw(build(api.MaxFrame + 1).Freeze()); s != nil || code != api.ErrLong {
		t.Errorf("one byte too long: %d", code)
	}
	for _, n := range []int{api.MaxFrame + 1, 3 * api.MaxFrame} {
		if s, code := store.Thaw(strings.Repeat("\x00", n)); s != nil || code != api.ErrLong {
			t.Errorf("%d bytes: %d", n, code)
		}
	}
}

// P12.18: a thawed store goes on as the other one, by all kinds of events.
func TestThawGoesOn(t *testing.T) {
	for kind, a := range every() {
		s := rich(t)
		twin := thaws(t, "rich", s.Freeze())
		if told(twin) != told(s) {
			t.Fatalf("thawed:\n%s\nnot\n%s", told(twin), told(s))
		}
		for other, b := range every() {
			if got, want := b.of(twin), b.of(s); !got.same(want) || got.code != api.OK {
				t.Errorf("kind %d, plan of %d: %v, not %v", kind, other, got, want)
			}
		}
		done(t, s, a)
		if e := a.of(twin).e; twin.Apply(e) != api.OK || told(twin) != told(s) || twin.Freeze() != s.Freeze() {
			t.Errorf("kind %d: it goes on otherwise", kind)
		}
	}
}
