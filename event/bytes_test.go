package event_test

import (
	"encoding/hex"
	"math/rand/v2"
	"reflect"
	"runtime"
	"slices"
	"strings"
	"sync"
	"testing"

	"postbag/api"
	"postbag/event"
	"postbag/frame"
)

// fromHex is the bytes of hexadecimal digits, with blanks between them.
func fromHex(t *testing.T, s string) string {
	t.Helper()
	b, err := hex.DecodeString(strings.ReplaceAll(s, " ", ""))
	if err != nil {
		t.Fatal(err)
	}
	return string(b)
}

// P11.3, P11.4, P11.5: the bytes of each kind.
func TestBytes(t *testing.T) {
	for _, c := range []struct {
		e     api.Event
		bytes string
	}{
		{api.Event{Number: 2, Kind: api.EventMake, Names: []string{"a", "a/b"}, Boxes: []int{8, 9}}, "01 02 02 01 61 03 61 2f 62 08"},
		{api.Event{Number: 2, Kind: api.EventMake, Names: []string{"é"}, Boxes: []int{last}}, "01 02 01 02 c3 a9 fe ff ff ff 0f"},
		{api.Event{Number: 300, Kind: api.EventDrop, Box: 8}, "02 ac 02 08"},
		{api.Event{Number: last, Kind: api.EventDrop, Box: last}, "02 fe ff ff ff 0f fe ff ff ff 0f"},
		{api.Event{Number: 2, Kind: api.EventRename, Box: 8, Names: []string{"b", "a"}, Boxes: []int{127, 128}}, "03 02 08 02 01 62 01 61 7f"},
		{api.Event{Number: 2, Kind: api.EventInbox, Box: 7, Names: []string{"b"}, Boxes: []int{128}}, "04 02 07 01 01 62 80 01"},
		{api.Event{Number: 3, Kind: api.EventAdd, Box: 8, First: 1, Marks: []api.Mark{{Uid: 1, Flags: []string{`\Seen`, "Work"}}}, Date: day, Body: "x"}, "05 03 08 01 10 01 04 57 6f 72 6b ea 0f 02 01 0a 00 00 a0 0b 01 78"},
		{api.Event{Number: 3, Kind: api.EventAdd, Box: 8, First: 128, Marks: []api.Mark{{Uid: 128}}, Date: api.Moment{Year: 1, Month: 2, Day: 3, Hour: 4, Minute: 5, Second: 6, Zone: -1439}}, "05 03 08 80 01 00 00 01 02 03 04 05 06 01 00"},
		{api.Event{Number: 3, Kind: api.EventAdd, Box: 8, First: 1, Marks: []api.Mark{{Uid: 1}}, Date: api.Moment{Year: 9999, Month: 12, Day: 31, Hour: 23, Minute: 59, Second: 58, Zone: 1439}, Body: "\x00\xff"}, "05 03 08 01 00 00 8f 4e 0c 1f 17 3b 3a bf 16 02 00 ff"},
		{api.Event{Number: 4, Kind: api.EventFlags, Box: 8, Marks: []api.Mark{{Uid: 1}, {Uid: 3, Flags: []string{"A"}}}}, "06 04 08 02 01 00 00 03 00 01 01 41"},
		{api.Event{Number: 4, Kind: api.EventFlags, Box: 8, Marks: []api.Mark{{Uid: 1, Flags: []string{`\Answered`}}, {Uid: 2, Flags: []string{`\Deleted`}}, {Uid: 3, Flags: []string{`\Draft`}}, {Uid: 4, Flags: []string{`\Flagged`}}, {Uid: 5, Flags: []string{`\Seen`}}}}, "06 04 08 05 01 01 00 02 02 00 03 04 00 04 08 00 05 10 00"},
		{api.Event{Number: 4, Kind: api.EventFlags, Box: 8, Marks: []api.Mark{{Uid: 1, Flags: []string{`\Answered`, `\Deleted`, `\Draft`, `\Flagged`, `\Seen`, "a", "B"}}}}, "06 04 08 01 01 1f 02 01 61 01 42"},
		{api.Event{Number: 5, Kind: api.EventExpunge, Box: 8, Uids: []int{1, 300}}, "07 05 08 02 01 ac 02"},
		{api.Event{Number: 5, Kind: api.EventCopy, Box: 8, To: 7, First: 9, Uids: []int{1, 3}}, "08 05 08 07 09 02 01 03"},
		{api.Event{Number: 5, Kind: api.EventMove, Box: 8, To: 8, First: 9, Uids: []int{1}}, "09 05 08 08 09 01 01"},
		{api.Event{Number: 6, Kind: api.EventSubscribe, Name: "INBOX"}, "0a 06 05 49 4e 42 4f 58"},
		{api.Event{Number: 6, Kind: api.EventUnsubscribe, Name: "a"}, "0b 06 01 61"},
	} {
		want := fromHex(t, c.bytes)
		if s := made(t, c.e); s != want {
			t.Errorf("Encode(%s): %x, not %s", short(c.e), s, c.bytes)
		}
		if size := event.Size(c.e); size != len(want) {
			t.Errorf("Size(%s): %d, not %d", short(c.e), size, len(want))
		}
		if e, code := event.Decode(want); code != api.OK || !same(e, c.e) {
			t.Errorf("Decode(%s): %s, %d", c.bytes, short(e), code)
		}
	}
}

// P11.3, P11.7: numbers at the seams of seven bits, in every place that has one.
func TestBytesAtSeams(t *testing.T) {
	for _, c := range []struct {
		v     int
		bytes string
	}{
		{2, "02"}, {126, "7e"}, {127, "7f"}, {128, "80 01"}, {129, "81 01"}, {255, "ff 01"}, {256, "80 02"}, {16383, "ff 7f"}, {16384, "80 80 01"},
		{2097151, "ff ff 7f"}, {2097152, "80 80 80 01"}, {268435455, "ff ff ff 7f"}, {268435456, "80 80 80 80 01"}, {1<<31 - 1, "ff ff ff ff 07"}, {1 << 31, "80 80 80 80 08"}, {last, "fe ff ff ff 0f"},
	} {
		number := fromHex(t, c.bytes)
		for _, kind := range kinds {
			e := plain(kind)
			e.Number = c.v
			if s, want := made(t, e), string([]byte{byte(kind)})+number; !strings.HasPrefix(s, want) {
				t.Errorf("Encode(%s): %x, not from %x on", short(e), s, want)
			}
			for f, set := range numbers(kind) {
				e := turned(kind, func(e *api.Event) { set(e, c.v) })
				s := made(t, e)
				if s != slowBytes(e) || !strings.Contains(s, number) {
					t.Errorf("Encode(%s) with %s %d: %x", short(e), f, c.v, s)
				}
				if back, code := event.Decode(s); code != api.OK || !same(back, e) {
					t.Errorf("Decode(%x): %s, %d", s, short(back), code)
				}
			}
		}
	}
}

// P11.3, P11.7: bodies of every length at a seam, and of any bytes.
func TestBytesOfBodies(t *testing.T) {
	r := rand.New(rand.NewPCG(11, 5))
	for _, n := range []int{0, 1, 126, 127, 128, 129, 255, 256, 16382, 16383, 16384} {
		body := make([]byte, n)
		for i := range body {
			body[i] = byte(r.Uint32())
		}
		e := turned(api.EventAdd, func(e *api.Event) { e.Body = string(body) })
		s := made(t, e)
		if s != slowBytes(e) || !strings.HasSuffix(s, e.Body) {
			t.Errorf("Encode of a body of %d bytes", n)
		}
		if back, code := event.Decode(s); code != api.OK || !same(back, e) {
			t.Errorf("Decode of a body of %d bytes: %d", n, code)
		}
	}
}

// P11.4: numbers that are written otherwise, or are none.
func TestDecodeNumbers(t *testing.T) {
	for _, kind := range kinds {
		e := plain(kind)
		e.Number = 300
		rest := made(t, e)[3:]
		if _, code := event.Decode(string([]byte{byte(kind)}) + fromHex(t, "ac 02") + rest); code != api.OK {
			t.Fatalf("Decode of %s: %d", short(e), code)
		}
		for _, number := range []string{
			"ac 82 00", "ac 82 80 00", "ac 82 80 80 80 00", "ac 82 80 80 80 80 00", "ac 82 80 80 80 80 80 80 80 00", "ac 82 80 80 80 80 80 80 80 80 00", "ac 82 80 80 80 80 80 80 80 80 80 00",
			"ac 82 80 80 80 80 80 80 80 80 01", "ac 82 80 80 80 80 80 80 80 80 02", "ac 82 80 80 80 80 80 80 80 80 80 01", "ac 82 80 80 80 80 80 80 80 80 80 80 80 80 80 80 80 80 80 80 01",
			"ac 82 80 80 10", "ac 82 80 80 20", "ac 82 80 80 80 01", "ac 82 80 80 80 80 80 80 80 01", "ac 82 80 80 80 80 80 80 80 7f", "ac 82 80 80 80 80 80 80 40",
			"00", "80 00", "01", "81 00", "ff ff ff ff 0f", "80 80 80 80 10", "ff ff ff ff ff ff ff ff ff 01", "ff ff ff ff ff ff ff ff 7f", "ff ff ff ff ff ff ff ff ff ff ff ff ff ff 01",
		} {
			refused(t, string([]byte{byte(kind)})+fromHex(t, number)+rest)
		}
		for _, k := range []string{"00", "0c", "7f", "80", "80 00", "81 00", "ff 01", "8b 80 00", "81 80 80 80 80 80 80 80 80 02", "ff ff ff ff ff ff ff ff ff 01"} {
			refused(t, fromHex(t, k)+fromHex(t, "ac 02")+rest)
		}
		padded := string([]byte{byte(kind) | 128, 0})
		refused(t, padded+fromHex(t, "ac 02")+rest)
	}
}

// P11.4: each number of one byte in turn is made longer: with a byte 0 at its end, above 64 bits, without an end. (The bytes of texts are turned so, too.)
func TestDecodeLongerNumbers(t *testing.T) {
	for _, kind := range kinds {
		s := made(t, plain(kind))
		for i := range len(s) {
			if s[i] >= 128 {
				continue
			}
			for _, more := range []string{"\x00", "\x80\x00", strings.Repeat("\x80", 9) + "\x00", strings.Repeat("\x80", 9) + "\x01", strings.Repeat("\x80", 30) + "\x00", strings.Repeat("\xff", 100)} {
				other := s[:i] + string([]byte{s[i] | 128}) + more + s[i+1:]
				got, code := event.Decode(other)
				want, wantCode := slowDecode(other)
				if code != wantCode || !same(got, want) {
					t.Errorf("Decode(%x): %s, %d, not %s, %d", other, short(got), code, short(want), wantCode)
				}
			}
		}
	}
}

// P11.4: lists that say more, or less, than there is, and lists above their limits.
func TestDecodeLists(t *testing.T) {
	for _, s := range []string{
		"01 02 ff ff ff ff 0f", "01 02 02 01 61 08", "01 02 01 01 61 01 62 08", "01 02 00 08", "01 02 00", "01 02 01 01 61", "01 02 01 05 61 08", "01 02 01 00 08", "01 02 02 01 61 01 61 08", "01 02 01 05 49 4e 42 4f 58 08",
		"01 02 02 01 61 01 62 fe ff ff ff 0f", "01 02 01 01 61 00", "01 02 01 01 61 ff ff ff ff 0f", "01 02 01 ff ff ff ff ff ff ff ff ff 01 61 08", "01 02 01 ff ff ff ff 0f 61 08", "01 02 01 81 80 80 80 80 80 80 80 80 01 61 08",
		"03 02 08 00 08", "03 02 00 01 01 62 08", "04 02 07 02 01 62 08",
		"06 04 08 00", "06 04 08 02 01 00 00", "06 04 08 01 01 00 00 03 00 00", "06 04 08 02 01 00 00 01 00 00", "06 04 08 02 02 00 00 01 00 00", "06 04 08 01 00 00 00", "06 04 08 ff ff ff ff 0f 01 00 00",
		"06 04 08 01 01 20 00", "06 04 08 01 01 40 00", "06 04 08 01 01 30 00", "06 04 08 01 01 80 02 00", "06 04 08 01 01 00 02 01 62 01 61", "06 04 08 01 01 00 02 01 61 01 61", "06 04 08 01 01 00 02 01 61 01 41", "06 04 08 01 01 00 01 00",
		"06 04 08 01 01 00 09 01 61 01 62 01 63 01 64 01 65 01 66 01 67 01 68 01 69", "06 04 08 01 01 00 02 01 61", "06 04 08 01 01 00 01 01", "06 04 08 01 01 00 01 01 28", "06 04 08 01 01 00 ff ff ff ff 0f 01 61",
		"07 05 08 00", "07 05 08 01", "07 05 08 02 01", "07 05 08 01 01 02", "07 05 08 02 01 01", "07 05 08 02 02 01", "07 05 08 01 00", "07 05 08 01 ff ff ff ff 0f", "07 05 08 ff ff ff ff ff ff ff ff ff 01 01",
		"08 05 08 07 09 00", "08 05 08 07 fe ff ff ff 0f 02 01 03", "08 05 08 00 09 01 01", "09 05 08 08 00 01 01",
		"0a 06 05 69 6e 62 6f 78", "0a 06 00", "0a 06 05 49 4e 42 4f", "0b 06 03 61 2f 2f", "0b 06 01 ff", "0a 06 ff ff ff ff 0f 61",
		"", "01", "02", "02 02", "02 02 00", "02 01 08", "00 02", "0c 02 08", "ff", "80",
		"05 03 08 01 10 01 04 57 6f 72 6b ea 0f 02 01 0a 00 00 a0 0b 02 78", "05 03 08 01 00 00 ea 0f 02 1d 0a 00 00 a0 0b 00", "05 03 08 01 00 00 ea 0f 02 01 18 00 00 a0 0b 00", "05 03 08 01 00 00 ea 0f 02 01 0a 00 00 00 00", "05 03 08 01 00 00 ea 0f 02 01 0a 00 00 c0 16 00", "05 03 08 00 00 00 ea 0f 02 01 0a 00 00 a0 0b 00",
	} {
		refused(t, fromHex(t, s))
	}
	uids := func(many int) string { return "\x07\x05\x08" + n(many) + n(upTo(many)...) }
	if e, code := event.Decode(uids(64)); code != api.OK || len(e.Uids) != 64 {
		t.Errorf("64 uids: %d", code)
	}
	refused(t, uids(65))
	refused(t, uids(100000))
	refused(t, "\x06\x05\x08"+n(65)+strings.Repeat("\x01\x00\x00", 65))
}

// P11.4, P11.7: a flag of the system that stands among the keywords is another row of bytes for the same flags, which no event has.
func TestDecodeSystemFlagAsKeyword(t *testing.T) {
	for _, system := range []int{0, 1, 16} {
		for _, keywords := range [][]string{{`\Seen`}, {`\seen`}, {`\Deleted`, `\Seen`}, {`\Seen`, "a"}, {"a", `\Seen`}, {`\Answered`}} {
			flags := n(system, len(keywords)) + text(keywords...)
			refused(t, "\x06\x04\x08\x01\x01"+flags)
			refused(t, "\x05\x03\x08\x01"+flags+fromHex(t, "ea 0f 02 01 0a 00 00 a0 0b 01 78"))
		}
	}
}

// P11.4, P11.7: cut off at every place, with bytes left over, and with another ahead.
func TestDecodeCut(t *testing.T) {
	r := rand.New(rand.NewPCG(11, 6))
	events := []api.Event{}
	for _, kind := range kinds {
		events = append(events, plain(kind))
	}
	for range 300 {
		events = append(events, someEvent(r))
	}
	var rows []string
	for _, e := range events {
		s := made(t, e)
		rows = append(rows, s)
		for i := range len(s) {
			refused(t, s[:i])
		}
		for _, more := range []string{"\x00", "\x01", "x", "\x80", "\xff", s, "\x00\x00\x00\x00"} {
			refused(t, s+more)
		}
	}
	slices.Sort(rows)
	rows = slices.Compact(rows)
	for i := 1; i < len(rows); i++ {
		if strings.HasPrefix(rows[i], rows[i-1]) {
			t.Errorf("%x begins %x", rows[i-1], rows[i])
		}
	}
}

// P11.4: how long the bytes may be; whatever stands in longer ones, they are too long.
func TestDecodeLong(t *testing.T) {
	drop := made(t, plain(api.EventDrop))
	for _, fill := range []string{"\x00", "\x01", "x", "\x80", "\xff"} {
		refused(t, strings.Repeat(fill, api.MaxFrame))
		refused(t, drop+strings.Repeat(fill, api.MaxFrame-len(drop)))
		for _, s := range []string{strings.Repeat(fill, api.MaxFrame+1), drop + strings.Repeat(fill, api.MaxFrame+1-len(drop)), strings.Repeat(fill, 2*api.MaxFrame)} {
			if e, code := event.Decode(s); code != api.ErrLong || !reflect.DeepEqual(e, api.Event{}) {
				t.Errorf("Decode of %d bytes %q: %s, %d", len(s), fill, short(e), code)
			}
		}
	}
	date := "\xea\x0f\x02\x01\x0a\x00\x00\xa0\x0b"
	ahead := "\x05\x03\x08\x01\x00\x00" + date
	whole := ahead + n(api.MaxFrame-len(ahead)-3)
	refused(t, whole+strings.Repeat("x", api.MaxFrame-len(whole)))
	refused(t, ahead+text(strings.Repeat("x", api.MaxLiteral+1)))
	if _, code := event.Decode(ahead + text(strings.Repeat("x", api.MaxLiteral))); code != api.OK {
		t.Errorf("Decode of the longest body: %d", code)
	}
}

// P11.4: nothing as long as a list, or a text, says is made ahead of reading it.
func TestDecodeMakesLittle(t *testing.T) {
	for _, s := range []string{
		"01 02 ff ff ff ff 0f", "07 05 08 ff ff ff ff 0f", "07 05 08 ff ff ff ff 0f 01 02 03", "06 04 08 fe ff ff 7f", "06 04 08 01 01 00 ff ff ff 7f", "0a 02 ff ff ff ff 0f", "05 03 08 01 00 00 ea 0f 02 01 0a 00 00 a0 0b ff ff ff 7f",
		"08 05 08 07 09 ff ff ff 3f", "07 05 08 ff ff ff ff ff ff ff ff 7f", "07 05 08 ff ff ff ff ff ff ff ff ff 01",
	} {
		b := fromHex(t, s)
		var before, behind runtime.MemStats
		runtime.ReadMemStats(&before)
		refused(t, b)
		runtime.ReadMemStats(&behind)
		if made := behind.TotalAlloc - before.TotalAlloc; made > 1<<20 {
			t.Errorf("Decode(%s) made %d bytes", s, made)
		}
	}
}

// P11.7: there and back of many events.
func TestThereAndBack(t *testing.T) {
	r := rand.New(rand.NewPCG(11, 7))
	seen := map[int]int{}
	for range 30000 {
		e := someEvent(r)
		s := made(t, e)
		back, code := event.Decode(s)
		if code != api.OK || !same(back, e) {
			t.Fatalf("Decode of Encode(%s): %s, %d", short(e), short(back), code)
		}
		if s != slowBytes(e) || event.Size(e) != len(s) {
			t.Fatalf("Encode(%s): %x", short(e), s)
		}
		seen[e.Kind]++
	}
	if len(seen) != len(kinds) {
		t.Errorf("kinds: %v", seen)
	}
}

// back holds Decode of any bytes against another make, and against Encode.
func back(t *testing.T, s string) bool {
	t.Helper()
	e, code := event.Decode(s)
	want, wantCode := slowDecode(s)
	if code != wantCode || !same(e, want) {
		t.Fatalf("Decode(%x): %s, %d, not %s, %d", s, short(e), code, short(want), wantCode)
	}
	if code != api.OK {
		if !reflect.DeepEqual(e, api.Event{}) {
			t.Fatalf("Decode(%x): %s beside %d", s, short(e), code)
		}
		return false
	}
	if event.Check(e) != api.OK || made(t, e) != s {
		t.Fatalf("Encode of Decode(%x): %x", s, made(t, e))
	}
	return true
}

// P11.4, P11.7: each byte of an event turned into every other one.
func TestBackOfTurnedBytes(t *testing.T) {
	for _, kind := range kinds {
		s := made(t, plain(kind))
		for i := range len(s) {
			for b := range 256 {
				back(t, s[:i]+string([]byte{byte(b)})+s[i+1:])
			}
		}
	}
}

// P11.4, P11.7: short rows of all bytes.
func TestBackOfShortBytes(t *testing.T) {
	for a := range 256 {
		back(t, string([]byte{byte(a)}))
		for b := range 256 {
			back(t, string([]byte{byte(a), byte(b)}))
			back(t, string([]byte{byte(a), byte(b), 1}))
			back(t, string([]byte{2, byte(a), byte(b)}))
			back(t, string([]byte{2, 2, byte(a), byte(b)}))
			back(t, string([]byte{10, 2, byte(a), byte(b)}))
			back(t, string([]byte{7, 2, 2, byte(a), byte(b)}))
			back(t, string([]byte{6, 2, 2, 1, 1, byte(a), byte(b)}))
		}
	}
}

// P11.4, P11.7: the bytes of events, torn and mended in many ways; bytes of no kind.
func TestBackOfAnyBytes(t *testing.T) {
	r := rand.New(rand.NewPCG(11, 8))
	taken, left := 0, 0
	for range 60000 {
		b := []byte(made(t, someEvent(r)))
		for range r.IntN(4) {
			at := r.IntN(len(b) + 1)
			some := make([]byte, r.IntN(4))
			for i := range some {
				some[i] = byte(oneOf(r, 0, 1, 2, 127, 128, 255, r.IntN(256)))
			}
			behind := min(len(b), at+r.IntN(4))
			b = slices.Concat(b[:at], some, b[behind:])
		}
		if back(t, string(b)) {
			taken++
		} else {
			left++
		}
	}
	if taken < 10000 || left < 10000 {
		t.Errorf("%d taken, %d refused", taken, left)
	}
	for range 60000 {
		b := make([]byte, r.IntN(20))
		for i := range b {
			b[i] = byte(oneOf(r, r.IntN(12), r.IntN(3), r.IntN(256)))
		}
		back(t, string(b))
	}
}

// longest is the longest event of a kind.
func longest(kind int) api.Event {
	var names, keywords []string
	var boxes, uids []int
	var marks []api.Mark
	level := strings.Repeat("x", api.MaxLevel)
	for i := range api.MaxBoxes {
		names = append(names, strings.Repeat(level+"/", api.MaxLevels-1)+level[1:]+string(rune('a'+i)))
		boxes = append(boxes, last-api.MaxBoxes+1+i)
	}
	for i := range api.MaxKeywords {
		keywords = append(keywords, strings.Repeat("k", api.MaxKeyword-1)+string(rune('a'+i)))
	}
	flags := slices.Concat(systemOrder, keywords)
	for i := range api.MaxMails {
		uids = append(uids, last-api.MaxMails+1+i)
		marks = append(marks, api.Mark{Uid: uids[i], Flags: flags})
	}
	first := last - api.MaxMails + 1
	if kind == api.EventAdd {
		first, marks = last, []api.Mark{{Uid: last, Flags: flags}}
	}
	return just(api.Event{
		Number: last, Kind: kind, Box: last, To: last, First: first, Name: names[0], Names: names, Boxes: boxes, Uids: uids, Marks: marks,
		Date: api.Moment{Year: 9999, Month: 12, Day: 31, Hour: 23, Minute: 59, Second: 59, Zone: 1439}, Body: strings.Repeat("x", api.MaxLiteral),
	}, fieldsOf(kind)...)
}

// P11.9: the longest event of each kind, to the byte; its frame fits.
func TestLongest(t *testing.T) {
	flags := 1 + 1 + 8*25
	for kind, want := range map[int]int{
		api.EventMake:        6 + 1 + 16*(2+197) + 5,
		api.EventDrop:        6 + 5,
		api.EventRename:      6 + 5 + 1 + 16*(2+197) + 5,
		api.EventInbox:       6 + 5 + 1 + 16*(2+197) + 5,
		api.EventAdd:         6 + 5 + 5 + flags + 9 + 3 + 16384,
		api.EventFlags:       6 + 5 + 1 + 64*(5+flags),
		api.EventExpunge:     6 + 5 + 1 + 64*5,
		api.EventCopy:        6 + 5 + 5 + 5 + 1 + 64*5,
		api.EventMove:        6 + 5 + 5 + 5 + 1 + 64*5,
		api.EventSubscribe:   6 + 2 + 197,
		api.EventUnsubscribe: 6 + 2 + 197,
	} {
		e := longest(kind)
		s := made(t, e)
		if size := event.Size(e); size != want || len(s) != want || size > api.MaxLiteral+1024 {
			t.Errorf("Size of the longest event of kind %d: %d, %d bytes, not %d", kind, size, len(s), want)
		}
		if back, code := event.Decode(s); code != api.OK || !same(back, e) {
			t.Errorf("Decode of the longest event of kind %d: %d", kind, code)
		}
		if _, code := frame.Encode(api.FrameEvent, e.Number, s); code != api.OK {
			t.Errorf("the frame of the longest event of kind %d: %d", kind, code)
		}
	}
}

// P11.9: no event is longer than the longest of its kind.
func TestNoneIsLonger(t *testing.T) {
	r := rand.New(rand.NewPCG(11, 9))
	for range 5000 {
		e := someEvent(r)
		if size := event.Size(e); size == 0 || size > event.Size(longest(e.Kind)) || size > api.MaxLiteral+1024 {
			t.Errorf("Size(%s): %d", short(e), size)
		}
	}
}

// P11.5
func TestSizeOfRefused(t *testing.T) {
	for _, e := range []api.Event{
		{}, {Kind: api.EventDrop}, {Number: 2, Kind: api.EventDrop}, {Number: 2, Kind: 12, Box: 8}, {Number: 1, Kind: api.EventDrop, Box: 8},
		{Number: 2, Kind: api.EventDrop, Box: 8, To: 7}, {Number: 2, Kind: api.EventExpunge, Box: 8}, {Names: make([]string, 17)}, {Number: 2, Kind: api.EventExpunge, Box: 8, Uids: make([]int, 65)},
		turned(api.EventAdd, func(e *api.Event) { e.Body = strings.Repeat("x", api.MaxLiteral+1) }),
	} {
		if size := event.Size(e); size != 0 {
			t.Errorf("Size(%s): %d", short(e), size)
		}
	}
	if size := event.Size(api.Event{Number: 300, Kind: api.EventDrop, Box: 8}); size != 4 {
		t.Errorf("Size of a drop: %d", size)
	}
}

// P11.6: a nil list and an empty one are one.
func TestEmptyLists(t *testing.T) {
	for _, kind := range kinds {
		nils, empties := plain(kind), plain(kind)
		for _, f := range []string{"Names", "Boxes", "Uids", "Marks"} {
			if !slices.Contains(fieldsOf(kind), f) {
				place := reflect.ValueOf(&empties).Elem().FieldByName(f)
				place.Set(reflect.MakeSlice(place.Type(), 0, 3))
			}
		}
		for i := range nils.Marks {
			nils.Marks[i].Flags = nil
			empties.Marks[i].Flags = []string{}
		}
		look(t, empties, api.OK)
		if made(t, nils) != made(t, empties) {
			t.Errorf("kind %d: nil and empty lists are not the same", kind)
		}
		if e, code := event.Decode(made(t, empties)); code != api.OK || !same(e, nils) {
			t.Errorf("kind %d: %s, %d", kind, short(e), code)
		}
	}
	a, codeA := event.Flags(nil)
	b, codeB := event.Flags([]string{})
	if len(a) > 0 || len(b) > 0 || codeA != api.OK || codeB != api.OK {
		t.Errorf("Flags of none: %q, %d; %q, %d", a, codeA, b, codeB)
	}
}

// roomy is an event whose lists have room behind their ends, filled with what may not be touched.
func roomy(e api.Event) (api.Event, func() bool) {
	e = clone(e)
	names, boxes, uids, marks := append(e.Names, "!", "!"), append(e.Boxes, -7, -7), append(e.Uids, -7, -7), append(e.Marks, api.Mark{Uid: -7})
	kept := []api.Event{{Names: names, Boxes: boxes, Uids: uids, Marks: marks}}
	for i := range e.Marks {
		flags := append(marks[i].Flags, "!", "!")
		marks[i].Flags = flags[:len(flags)-2]
		kept = append(kept, api.Event{Names: flags})
	}
	e.Names, e.Boxes, e.Uids, e.Marks = names[:len(e.Names)], boxes[:len(e.Boxes)], uids[:len(e.Uids)], marks[:len(e.Marks)]
	var was []api.Event
	for _, k := range kept {
		was = append(was, clone(k))
	}
	return e, func() bool { return slices.EqualFunc(kept, was, same) }
}

// P11.6: what is handed in is not changed, the room behind its lists neither.
func TestHandedInStays(t *testing.T) {
	r := rand.New(rand.NewPCG(11, 10))
	for i := range 5000 {
		e := someEvent(r)
		if i%2 == 1 {
			e = spoiled(r, e)
		}
		e, stays := roomy(e)
		event.Check(e)
		event.Encode(e)
		event.Size(e)
		if !stays() {
			t.Fatalf("changed: %s", short(e))
		}
	}
}

// scribble fills the lists of an event, one by one, the room behind their ends too, and tells whether any other changed with it.
func scribble(e *api.Event) bool {
	lists := []func(){
		func() { fill(e.Names, "?") },
		func() { fill(e.Boxes, -1) },
		func() { fill(e.Uids, -1) },
	}
	for i := range e.Marks {
		flags := e.Marks[i].Flags
		lists = append(lists, func() { fill(flags, "?") })
	}
	shot := func() []any {
		out := []any{slices.Clone(e.Names), slices.Clone(e.Boxes), slices.Clone(e.Uids)}
		for _, m := range e.Marks {
			out = append(out, slices.Clone(m.Flags))
		}
		return out
	}
	for i, scribbles := range lists {
		before := shot()
		scribbles()
		behind := shot()
		before[i], behind[i] = nil, nil
		if !reflect.DeepEqual(before, behind) {
			return true
		}
	}
	fill(e.Marks, api.Mark{Uid: -1})
	return false
}

func fill[E any](list []E, v E) {
	list = list[:cap(list)]
	for i := range list {
		list[i] = v
	}
}

// P11.6: the lists of what is answered are new memory, a mark's flags too; nothing of it is kept.
func TestAnswersAreNew(t *testing.T) {
	r := rand.New(rand.NewPCG(11, 11))
	for range 3000 {
		want := someEvent(r)
		s := made(t, want)
		one, _ := event.Decode(s)
		two, _ := event.Decode(s)
		if scribble(&one) {
			t.Fatalf("lists of one answer share their memory: %s", short(want))
		}
		if !same(two, want) {
			t.Fatalf("two answers share their memory: %s, not %s", short(two), short(want))
		}
		if three, code := event.Decode(s); code != api.OK || !same(three, want) {
			t.Fatalf("kept: %s, not %s", short(three), short(want))
		}
		scribble(&want)
		if made(t, two) != s {
			t.Fatalf("an answer shares memory with what was encoded: %s", short(two))
		}
	}
}

// P11.10: the least and the greatest int in every number there is, alone and together.
func TestEndsOfInt(t *testing.T) {
	for _, v := range []int{least, least + 1, -1, most - 1, most} {
		moment := api.Moment{Year: v, Month: v, Day: v, Hour: v, Minute: v, Second: v, Zone: v}
		for _, kind := range append(kinds, v) {
			all := api.Event{
				Number: v, Kind: kind, Box: v, To: v, First: v, Names: []string{"a", "b"}, Boxes: []int{v, v + 1}, Uids: []int{v, v + 1},
				Marks: []api.Mark{{Uid: v}, {Uid: v + 1}}, Date: moment, Name: "a", Body: "x",
			}
			look(t, all, api.ErrEvent)
			look(t, just(all, fieldsOf(kind)...), api.ErrEvent)
			numbered := just(all, fieldsOf(kind)...)
			numbered.Number = 5
			if kind == api.EventSubscribe || kind == api.EventUnsubscribe {
				look(t, numbered, api.OK)
			} else {
				look(t, numbered, api.ErrEvent)
			}
			look(t, turned(kind, func(e *api.Event) { e.Date = moment }), api.ErrEvent)
		}
	}
}

// P11.10: answers hang on the arguments alone, whoever else calls meanwhile.
func TestCallsSideBySide(t *testing.T) {
	r := rand.New(rand.NewPCG(11, 12))
	var events []api.Event
	var rows []string
	for range 200 {
		e := someEvent(r)
		events, rows = append(events, e), append(rows, made(t, e))
	}
	var all sync.WaitGroup
	for range 4 {
		all.Go(func() {
			for i, e := range events {
				back, code := event.Decode(rows[i])
				s, _ := event.Encode(e)
				if s != rows[i] || code != api.OK || !same(back, e) || event.Size(e) != len(s) || event.Check(e) != api.OK {
					t.Errorf("side by side: %s", short(e))
				}
				if _, code := event.Decode(rows[i][1:] + "\xff"); code != api.ErrBytes {
					t.Errorf("side by side: %d", code)
				}
			}
		})
	}
	all.Wait()
}
