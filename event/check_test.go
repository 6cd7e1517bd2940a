package event_test

import (
	"math/rand/v2"
	"reflect"
	"slices"
	"strings"
	"testing"

	"postbag/api"
	"postbag/event"
)

var fields = []string{"Box", "To", "First", "Name", "Names", "Boxes", "Uids", "Marks", "Date", "Body"}

// full has something in every field; its lists have one element.
func full() api.Event {
	return api.Event{
		Box: 1, To: 1, First: 1, Name: "a", Names: []string{"a"}, Boxes: []int{1}, Uids: []int{1},
		Marks: []api.Mark{{Uid: 1}}, Date: day, Body: "x",
	}
}

// P11.2: each kind with just its fields, with one too much, with one too little.
func TestCheckFields(t *testing.T) {
	for _, kind := range kinds {
		e := plain(kind)
		look(t, e, api.OK)
		has := fieldsOf(kind)
		for _, f := range fields {
			other := clone(e)
			place := reflect.ValueOf(&other).Elem().FieldByName(f)
			want := api.ErrEvent
			if slices.Contains(has, f) {
				place.SetZero()
				if f == "Body" {
					want = api.OK
				}
			} else {
				place.Set(reflect.ValueOf(full()).FieldByName(f))
			}
			look(t, other, want)
		}
		look(t, api.Event{Number: 5, Kind: kind}, api.ErrEvent)
		everything := full()
		everything.Number, everything.Kind = 5, kind
		look(t, everything, api.ErrEvent)
	}
}

// P11.2: what a kind has not may be no part of a moment, nor anything else that is not zero.
func TestCheckRest(t *testing.T) {
	for _, kind := range kinds {
		has := fieldsOf(kind)
		if !slices.Contains(has, "Date") {
			for i := range 7 {
				for _, v := range []int{-1, 1, least, most} {
					e := plain(kind)
					reflect.ValueOf(&e.Date).Elem().Field(i).SetInt(int64(v))
					look(t, e, api.ErrEvent)
				}
			}
		}
		for _, f := range []string{"Box", "To", "First"} {
			for _, v := range []int{-1, 1, last, last + 1, least, most} {
				e := plain(kind)
				if slices.Contains(has, f) {
					continue
				}
				reflect.ValueOf(&e).Elem().FieldByName(f).SetInt(int64(v))
				look(t, e, api.ErrEvent)
			}
		}
		for f, v := range map[string]any{
			"Name": "\x00", "Names": []string{""}, "Boxes": []int{0}, "Uids": []int{0}, "Marks": []api.Mark{{}}, "Body": "\x00",
		} {
			if e := plain(kind); !slices.Contains(has, f) {
				reflect.ValueOf(&e).Elem().FieldByName(f).Set(reflect.ValueOf(v))
				look(t, e, api.ErrEvent)
			}
		}
	}
}

// P11.2: kinds that there are not.
func TestCheckKind(t *testing.T) {
	for _, kind := range []int{0, -1, 12, 13, 255, 256, 257, 1<<32 + 1, least, least + 1, most} {
		for _, e := range []api.Event{{}, plain(api.EventDrop), plain(api.EventMake), plain(api.EventSubscribe), {Number: 2}} {
			e.Kind = kind
			look(t, e, api.ErrEvent)
		}
	}
}

// P11.2, P11.10: the number of every kind.
func TestCheckNumber(t *testing.T) {
	for _, kind := range kinds {
		for v, want := range map[int]api.Errno{
			least: api.ErrEvent, -2: api.ErrEvent, -1: api.ErrEvent, 0: api.ErrEvent, 1: api.ErrEvent, 2: api.OK, 3: api.OK,
			last - 1: api.OK, last: api.OK, api.MaxNumber: api.ErrEvent, api.MaxNumber + 1: api.ErrEvent, api.MaxNumber + 3: api.ErrEvent, most: api.ErrEvent,
		} {
			look(t, turned(kind, func(e *api.Event) { e.Number = v }), want)
		}
	}
}

// numbers are those that an event of a kind has, each with how it is set, so that the event may be if the number may.
func numbers(kind int) map[string]func(e *api.Event, v int) {
	all := map[string]func(e *api.Event, v int){
		"Box":   func(e *api.Event, v int) { e.Box = v },
		"To":    func(e *api.Event, v int) { e.To = v },
		"First": func(e *api.Event, v int) { e.First, e.Uids = v, []int{1} },
		"Boxes": func(e *api.Event, v int) { e.Names, e.Boxes = []string{"a"}, []int{v} },
		"Uids":  func(e *api.Event, v int) { e.Uids = []int{v} },
		"Marks": func(e *api.Event, v int) { e.Marks = []api.Mark{{Uid: v}} },
	}
	if kind == api.EventAdd {
		one := func(e *api.Event, v int) { e.First, e.Marks = v, []api.Mark{{Uid: v}} }
		all["First"], all["Marks"] = one, one
	}
	for f := range all {
		if !slices.Contains(fieldsOf(kind), f) {
			delete(all, f)
		}
	}
	return all
}

// P11.2, P11.10: every other number, at its ends and outside.
func TestCheckNumbers(t *testing.T) {
	for _, kind := range kinds {
		for _, set := range numbers(kind) {
			for v, want := range map[int]api.Errno{
				least: api.ErrEvent, -1: api.ErrEvent, 0: api.ErrEvent, 1: api.OK, 2: api.OK, last - 1: api.OK, last: api.OK,
				api.MaxNumber: api.ErrEvent, api.MaxNumber + 1: api.ErrEvent, 1<<32 + 1: api.ErrEvent, most: api.ErrEvent,
			} {
				look(t, turned(kind, func(e *api.Event) { set(e, v) }), want)
			}
		}
	}
}

// P11.2: validities rise one by one, as many as there are names.
func TestCheckBoxes(t *testing.T) {
	for _, kind := range []int{api.EventMake, api.EventRename, api.EventInbox} {
		for _, c := range []struct {
			boxes []int
			want  api.Errno
		}{
			{[]int{8, 9, 10}, api.OK},
			{[]int{1, 2, 3}, api.OK},
			{[]int{last - 2, last - 1, last}, api.OK},
			{[]int{last - 1, last, last + 1}, api.ErrEvent},
			{[]int{0, 1, 2}, api.ErrEvent},
			{[]int{-1, 0, 1}, api.ErrEvent},
			{[]int{8, 9}, api.ErrEvent},
			{[]int{8, 9, 10, 11}, api.ErrEvent},
			{[]int{8, 9, 11}, api.ErrEvent},
			{[]int{8, 10, 11}, api.ErrEvent},
			{[]int{8, 10, 10}, api.ErrEvent},
			{[]int{8, 8, 10}, api.ErrEvent},
			{[]int{8, 11, 10}, api.ErrEvent},
			{[]int{8, 8, 8}, api.ErrEvent},
			{[]int{10, 9, 8}, api.ErrEvent},
			{[]int{8, 9, 9}, api.ErrEvent},
			{[]int{8, least, 10}, api.ErrEvent},
			{[]int{most, least, least + 1}, api.ErrEvent},
			{[]int{most - 2, most - 1, most}, api.ErrEvent},
			{[]int{}, api.ErrEvent},
			{nil, api.ErrEvent},
		} {
			look(t, turned(kind, func(e *api.Event) { e.Names, e.Boxes = []string{"c", "b", "a"}, c.boxes }), c.want)
		}
	}
}

// P11.2: names, and which two are the same.
func TestCheckNames(t *testing.T) {
	level := strings.Repeat("x", api.MaxLevel)
	longest := strings.Repeat(level+"/", api.MaxLevels-1) + level
	for _, kind := range []int{api.EventMake, api.EventRename, api.EventInbox} {
		for _, c := range []struct {
			names []string
			want  api.Errno
		}{
			{[]string{"a", "b"}, api.OK},
			{[]string{"b", "a"}, api.OK},
			{[]string{"a/b", "a"}, api.OK},
			{[]string{"a", "A"}, api.OK},
			{[]string{"INBOX/a", "INBOX/A"}, api.OK},
			{[]string{"a/inbox", "b/INBOX"}, api.OK},
			{[]string{"é", "日本/😀"}, api.OK},
			{[]string{longest, level}, api.OK},
			{[]string{"a", "a"}, api.ErrEvent},
			{[]string{"INBOX", "a"}, api.ErrEvent},
			{[]string{"a", "INBOX"}, api.ErrEvent},
			{[]string{"a", "inbox"}, api.ErrEvent},
			{[]string{"Inbox/a", "a"}, api.ErrEvent},
			{[]string{"", "a"}, api.ErrEvent},
			{[]string{"a", ""}, api.ErrEvent},
			{[]string{"a", "a//b"}, api.ErrEvent},
			{[]string{"a", "a/"}, api.ErrEvent},
			{[]string{"a", "/a"}, api.ErrEvent},
			{[]string{"a", "a%"}, api.ErrEvent},
			{[]string{"*", "a"}, api.ErrEvent},
			{[]string{"a", "\xff"}, api.ErrEvent},
			{[]string{"a", "\x1f"}, api.ErrEvent},
			{[]string{"a", "\x7f"}, api.ErrEvent},
			{[]string{"a", level + "x"}, api.ErrEvent},
			{[]string{"a", "a/b/c/d/e/f/g"}, api.ErrEvent},
			{[]string{"a", longest + "x"}, api.ErrEvent},
			{[]string{strings.Repeat("x", 100000), "a"}, api.ErrEvent},
		} {
			look(t, turned(kind, func(e *api.Event) { e.Names = c.names }), c.want)
		}
		look(t, turned(kind, func(e *api.Event) { e.Names, e.Boxes = []string{"a", "b", "a"}, []int{1, 2, 3} }), api.ErrEvent)
		look(t, turned(kind, func(e *api.Event) { e.Names, e.Boxes = nil, nil }), api.ErrEvent)
		look(t, turned(kind, func(e *api.Event) { e.Names, e.Boxes = []string{}, []int{} }), api.ErrEvent)
	}
}

// P11.2: the name of a subscription; one that is too long is no name, and no text that is too long.
func TestCheckName(t *testing.T) {
	for _, kind := range []int{api.EventSubscribe, api.EventUnsubscribe} {
		for _, c := range []struct {
			name string
			want api.Errno
		}{
			{"INBOX", api.OK}, {"INBOX/a", api.OK}, {"a", api.OK}, {"a/b/c/d/e/f", api.OK}, {"日本", api.OK}, {"inboxes", api.OK}, {strings.Repeat("x", 32), api.OK},
			{"inbox", api.ErrEvent}, {"Inbox/a", api.ErrEvent}, {"", api.ErrEvent}, {"a/b/c/d/e/f/g", api.ErrEvent}, {"a%", api.ErrEvent}, {"\xc3", api.ErrEvent},
			{strings.Repeat("x", 33), api.ErrEvent}, {strings.Repeat("x", 198), api.ErrEvent}, {strings.Repeat("x", api.MaxLiteral+1), api.ErrEvent},
		} {
			look(t, turned(kind, func(e *api.Event) { e.Name = c.name }), c.want)
		}
	}
}

// P11.2: uids rise strictly, and there are some.
func TestCheckUids(t *testing.T) {
	for _, kind := range []int{api.EventExpunge, api.EventCopy, api.EventMove} {
		for _, c := range []struct {
			uids []int
			want api.Errno
		}{
			{[]int{1}, api.OK}, {[]int{1, 2}, api.OK}, {[]int{1, last}, api.OK}, {[]int{last - 1, last}, api.OK}, {[]int{2, 4, 8, 16}, api.OK},
			{nil, api.ErrEvent}, {[]int{}, api.ErrEvent}, {[]int{0, 1}, api.ErrEvent}, {[]int{-1, 1}, api.ErrEvent}, {[]int{1, 1}, api.ErrEvent}, {[]int{2, 1}, api.ErrEvent},
			{[]int{1, 3, 2}, api.ErrEvent}, {[]int{1, 2, 2}, api.ErrEvent}, {[]int{1, last + 1}, api.ErrEvent}, {[]int{1, 2, most}, api.ErrEvent}, {[]int{least, 1}, api.ErrEvent}, {[]int{1, least}, api.ErrEvent},
		} {
			look(t, turned(kind, func(e *api.Event) { e.Uids = c.uids }), c.want)
		}
	}
}

// P11.2: First, and as many numbers behind it as there are further uids.
func TestCheckFirst(t *testing.T) {
	for _, kind := range []int{api.EventCopy, api.EventMove} {
		for n := 1; n <= api.MaxMails; n++ {
			uids := make([]int, n)
			for i := range uids {
				uids[i] = 2*i + 1
			}
			for first, want := range map[int]api.Errno{
				1: api.OK, last - n: api.OK, last - n + 1: api.OK, last - n + 2: api.ErrEvent, last + 1: api.ErrEvent,
				0: api.ErrEvent, -n: api.ErrEvent, 1 - n: api.ErrEvent, most: api.ErrEvent, most - n: api.ErrEvent, least: api.ErrEvent,
			} {
				look(t, turned(kind, func(e *api.Event) { e.First, e.Uids = first, uids }), want)
			}
		}
	}
}

// P11.2: a mark's flags in their one form, with so many keywords.
func TestCheckFlags(t *testing.T) {
	for _, kind := range []int{api.EventAdd, api.EventFlags} {
		for _, c := range []struct {
			flags string
			want  api.Errno
		}{
			{"", api.OK},
			{`\Answered \Deleted \Draft \Flagged \Seen`, api.OK},
			{`\Answered \Deleted \Draft \Flagged \Seen a B c D e F g H`, api.OK},
			{"a b c d e f g h", api.OK},
			{"a b c d e f g h i", api.ErrEvent},
			{`\Answered \Deleted \Draft \Flagged \Seen a b c d e f g h i`, api.ErrEvent},
			{`\Answered \Deleted \Draft \Flagged \Seen a b c d e f g h i j k`, api.ErrEvent},
			{"_ Z", api.OK},
			{"Z _", api.ErrEvent},
			{"b a", api.ErrEvent},
			{"B a", api.ErrEvent},
			{"a B", api.OK},
			{"a a", api.ErrEvent},
			{"a A", api.ErrEvent},
			{`\seen`, api.ErrEvent},
			{`\Seen \Seen`, api.ErrEvent},
			{`\Seen \Answered`, api.ErrEvent},
			{`a \Seen`, api.ErrEvent},
			{`\Recent`, api.ErrEvent},
			{`\Seen \Recent`, api.ErrEvent},
			{strings.Repeat("k", 24), api.OK},
			{strings.Repeat("k", 25), api.ErrEvent},
			{"é", api.ErrEvent},
			{"a]", api.ErrEvent},
		} {
			flags := strings.Fields(c.flags)
			look(t, turned(kind, func(e *api.Event) { e.Marks[0].Flags = flags }), c.want)
			if kind == api.EventFlags {
				look(t, turned(kind, func(e *api.Event) { e.Marks[1].Flags = flags }), c.want)
			}
		}
		look(t, turned(kind, func(e *api.Event) { e.Marks[0].Flags = []string{""} }), api.ErrEvent)
	}
}

// P11.2: the marks of Flags, and the only one of Add.
func TestCheckMarks(t *testing.T) {
	marks := func(uids ...int) []api.Mark {
		var out []api.Mark
		for _, uid := range uids {
			out = append(out, api.Mark{Uid: uid, Flags: []string{`\Seen`}})
		}
		return out
	}
	for _, c := range []struct {
		uids []int
		want api.Errno
	}{
		{[]int{1}, api.OK}, {[]int{1, 2, 5}, api.OK}, {[]int{last - 1, last}, api.OK}, {nil, api.ErrEvent}, {[]int{0, 1}, api.ErrEvent}, {[]int{1, 1}, api.ErrEvent},
		{[]int{2, 1}, api.ErrEvent}, {[]int{1, 5, 4}, api.ErrEvent}, {[]int{1, last + 1}, api.ErrEvent}, {[]int{-1, 1}, api.ErrEvent}, {[]int{1, least, most}, api.ErrEvent},
	} {
		look(t, turned(api.EventFlags, func(e *api.Event) { e.Marks = marks(c.uids...) }), c.want)
	}
	for _, c := range []struct {
		first int
		uids  []int
		want  api.Errno
	}{
		{1, []int{1}, api.OK}, {last, []int{last}, api.OK}, {1, []int{2}, api.ErrEvent}, {2, []int{1}, api.ErrEvent}, {1, []int{1, 2}, api.ErrEvent}, {1, nil, api.ErrEvent},
		{1, []int{0}, api.ErrEvent}, {0, []int{0}, api.ErrEvent}, {last + 1, []int{last + 1}, api.ErrEvent}, {2, []int{1, 2}, api.ErrEvent}, {-1, []int{-1}, api.ErrEvent},
		{least, []int{least}, api.ErrEvent}, {most, []int{most}, api.ErrEvent},
	} {
		look(t, turned(api.EventAdd, func(e *api.Event) { e.First, e.Marks = c.first, marks(c.uids...) }), c.want)
	}
}

// P11.2: the date, field by field.
func TestCheckDate(t *testing.T) {
	for _, c := range []struct {
		date api.Moment
		want api.Errno
	}{
		{api.Moment{Year: 1, Month: 1, Day: 1}, api.OK},
		{api.Moment{Year: 9999, Month: 12, Day: 31, Hour: 23, Minute: 59, Second: 59, Zone: 1439}, api.OK},
		{api.Moment{Year: 2026, Month: 2, Day: 28, Zone: -1439}, api.OK},
		{api.Moment{Year: 2000, Month: 2, Day: 29}, api.OK},
		{api.Moment{}, api.ErrEvent},
		{api.Moment{Year: 1900, Month: 2, Day: 29}, api.ErrEvent},
		{api.Moment{Year: 2026, Month: 4, Day: 31}, api.ErrEvent},
		{api.Moment{Year: 2026, Month: 0, Day: 1}, api.ErrEvent},
		{api.Moment{Year: 2026, Month: 13, Day: 1}, api.ErrEvent},
		{api.Moment{Year: 2026, Month: 1, Day: 0}, api.ErrEvent},
		{api.Moment{Year: 0, Month: 1, Day: 1}, api.ErrEvent},
		{api.Moment{Year: 10000, Month: 1, Day: 1}, api.ErrEvent},
		{api.Moment{Year: 2026, Month: 1, Day: 1, Hour: 24}, api.ErrEvent},
		{api.Moment{Year: 2026, Month: 1, Day: 1, Hour: -1}, api.ErrEvent},
		{api.Moment{Year: 2026, Month: 1, Day: 1, Minute: 60}, api.ErrEvent},
		{api.Moment{Year: 2026, Month: 1, Day: 1, Second: 60}, api.ErrEvent},
		{api.Moment{Year: 2026, Month: 1, Day: 1, Zone: 1440}, api.ErrEvent},
		{api.Moment{Year: 2026, Month: 1, Day: 1, Zone: -1440}, api.ErrEvent},
	} {
		look(t, turned(api.EventAdd, func(e *api.Event) { e.Date = c.date }), c.want)
	}
	for i := range 7 {
		for _, v := range []int{least, most} {
			look(t, turned(api.EventAdd, func(e *api.Event) { reflect.ValueOf(&e.Date).Elem().Field(i).SetInt(int64(v)) }), api.ErrEvent)
		}
	}
}

// upTo is the numbers from 1 on.
func upTo(n int) []int {
	out := make([]int, n)
	for i := range out {
		out[i] = i + 1
	}
	return out
}

func someLetters(n int) []string {
	out := make([]string, n)
	for i := range out {
		out[i] = string(rune('a' + i))
	}
	return out
}

func marksOf(n int) []api.Mark {
	out := make([]api.Mark, n)
	for i := range out {
		out[i].Uid = i + 1
	}
	return out
}

// P11.2: lists and the body at their limits, and one above.
func TestCheckLimits(t *testing.T) {
	for _, c := range []struct {
		kind int
		turn func(e *api.Event)
		want api.Errno
	}{
		{api.EventMake, func(e *api.Event) { e.Names, e.Boxes = someLetters(16), upTo(16) }, api.OK},
		{api.EventMake, func(e *api.Event) { e.Names, e.Boxes = someLetters(17), upTo(17) }, api.ErrLong},
		{api.EventMake, func(e *api.Event) { e.Names, e.Boxes = someLetters(17), upTo(16) }, api.ErrLong},
		{api.EventMake, func(e *api.Event) { e.Names, e.Boxes = someLetters(16), upTo(17) }, api.ErrLong},
		{api.EventRename, func(e *api.Event) { e.Names, e.Boxes = someLetters(16), upTo(16) }, api.OK},
		{api.EventInbox, func(e *api.Event) { e.Names, e.Boxes = someLetters(17), upTo(17) }, api.ErrLong},
		{api.EventExpunge, func(e *api.Event) { e.Uids = upTo(64) }, api.OK},
		{api.EventExpunge, func(e *api.Event) { e.Uids = upTo(65) }, api.ErrLong},
		{api.EventCopy, func(e *api.Event) { e.Uids = upTo(64) }, api.OK},
		{api.EventMove, func(e *api.Event) { e.Uids = upTo(65) }, api.ErrLong},
		{api.EventFlags, func(e *api.Event) { e.Marks = marksOf(64) }, api.OK},
		{api.EventFlags, func(e *api.Event) { e.Marks = marksOf(65) }, api.ErrLong},
		{api.EventFlags, func(e *api.Event) { e.Marks[1].Flags = make([]string, 16) }, api.ErrEvent},
		{api.EventFlags, func(e *api.Event) { e.Marks[1].Flags = make([]string, 17) }, api.ErrLong},
		{api.EventAdd, func(e *api.Event) { e.Marks[0].Flags = make([]string, 17) }, api.ErrLong},
		{api.EventAdd, func(e *api.Event) { e.Marks = marksOf(64) }, api.ErrEvent},
		{api.EventAdd, func(e *api.Event) { e.Marks = marksOf(65) }, api.ErrLong},
		{api.EventAdd, func(e *api.Event) { e.Body = strings.Repeat("\xff", 16384) }, api.OK},
		{api.EventAdd, func(e *api.Event) { e.Body = strings.Repeat("\xff", 16385) }, api.ErrLong},
		{api.EventAdd, func(e *api.Event) { e.Body = strings.Repeat("x", 3000000) }, api.ErrLong},
		{api.EventFlags, func(e *api.Event) { e.Marks = append(marksOf(63), api.Mark{Uid: 64, Flags: make([]string, 17)}) }, api.ErrLong},
		{api.EventFlags, func(e *api.Event) { e.Marks = make([]api.Mark, 1000000) }, api.ErrLong},
	} {
		look(t, turned(c.kind, c.turn), c.want)
	}
}

// P11.2: what is too long comes ahead of all else, whatever the kind, and what that has.
func TestCheckLongFirst(t *testing.T) {
	for _, e := range []api.Event{
		{Names: make([]string, 17)}, {Boxes: make([]int, 17)}, {Uids: make([]int, 65)}, {Marks: make([]api.Mark, 65)},
		{Marks: []api.Mark{{}, {Flags: make([]string, 17)}}}, {Body: strings.Repeat("x", 16385)},
	} {
		look(t, e, api.ErrLong)
		for _, kind := range append(kinds, -1, 12, least, most) {
			other := plain(kind)
			other.Names, other.Boxes, other.Uids, other.Marks, other.Body = e.Names, e.Boxes, e.Uids, e.Marks, e.Body
			look(t, other, api.ErrLong)
			other.Number = 0
			look(t, other, api.ErrLong)
		}
	}
	for _, e := range []api.Event{
		{Names: make([]string, 16)}, {Boxes: make([]int, 16)}, {Uids: make([]int, 64)}, {Marks: make([]api.Mark, 64)},
		{Marks: []api.Mark{{}, {Flags: make([]string, 16)}}}, {Body: strings.Repeat("x", 16384)}, {Name: strings.Repeat("x", 20000)}, {},
	} {
		look(t, e, api.ErrEvent)
	}
}

// P11.2, P11.3, P11.5: many events, some of them spoiled, against another make.
func TestCheckMany(t *testing.T) {
	r := rand.New(rand.NewPCG(11, 4))
	taken, left := 0, 0
	for range 30000 {
		e := someEvent(r)
		if slowCheck(e) != api.OK {
			t.Fatalf("no event: %s", short(e))
		}
		for range r.IntN(3) {
			e = spoiled(r, e)
		}
		want := slowCheck(e)
		look(t, e, want)
		if want != api.OK {
			left++
			continue
		}
		taken++
		if s, _ := event.Encode(e); s != slowBytes(e) {
			t.Fatalf("Encode(%s): %x, not %x", short(e), s, slowBytes(e))
		}
	}
	if taken < 10000 || left < 5000 {
		t.Errorf("%d taken, %d refused", taken, left)
	}
}
