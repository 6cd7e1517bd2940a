package event_test

import (
	"fmt"
	"math/rand/v2"
	"reflect"
	"slices"
	"strings"
	"testing"

	"postbag/api"
	"postbag/event"
)

const (
	least = -1 << 63
	most  = 1<<63 - 1

	last = api.MaxNumber - 1 // the greatest number of a store
)

var kinds = []int{
	api.EventMake, api.EventDrop, api.EventRename, api.EventInbox, api.EventAdd, api.EventFlags,
	api.EventExpunge, api.EventCopy, api.EventMove, api.EventSubscribe, api.EventUnsubscribe,
}

var day = api.Moment{Year: 2026, Month: 2, Day: 1, Hour: 10}

func oneOf[E any](r *rand.Rand, l ...E) E { return l[r.IntN(len(l))] }

// clone shares no memory with what it is made of.
func clone(e api.Event) api.Event {
	e.Names, e.Boxes, e.Uids, e.Marks = slices.Clone(e.Names), slices.Clone(e.Boxes), slices.Clone(e.Uids), slices.Clone(e.Marks)
	for i := range e.Marks {
		e.Marks[i].Flags = slices.Clone(e.Marks[i].Flags)
	}
	return e
}

// same takes a nil list and an empty one for one.
func same(a, b api.Event) bool {
	rest := func(e api.Event) api.Event {
		e.Names, e.Boxes, e.Uids, e.Marks = nil, nil, nil, nil
		return e
	}
	return reflect.DeepEqual(rest(a), rest(b)) && slices.Equal(a.Names, b.Names) && slices.Equal(a.Boxes, b.Boxes) && slices.Equal(a.Uids, b.Uids) &&
		slices.EqualFunc(a.Marks, b.Marks, func(m, o api.Mark) bool { return m.Uid == o.Uid && slices.Equal(m.Flags, o.Flags) })
}

func short(e api.Event) string { return fmt.Sprintf("%.300s", fmt.Sprintf("%+v", e)) }

// plain is an event of a kind that may be; lists have two elements where they may.
func plain(kind int) api.Event {
	all := api.Event{
		Number: 5, Kind: kind, Box: 8, To: 7, First: 9, Name: "a/b", Names: []string{"a", "a/b"}, Boxes: []int{11, 12}, Uids: []int{3, 300},
		Marks: []api.Mark{{Uid: 9, Flags: []string{`\Seen`, "Work"}}, {Uid: 10, Flags: []string{"A"}}}, Date: day, Body: "x\r\n\x00",
	}
	if kind == api.EventAdd {
		all.Marks = all.Marks[:1]
	}
	return just(all, fieldsOf(kind)...)
}

// turned is a plain event of a kind behind a change.
func turned(kind int, turn func(e *api.Event)) api.Event {
	e := plain(kind)
	turn(&e)
	return e
}

// made is the bytes of an event that may be.
func made(t *testing.T, e api.Event) string {
	t.Helper()
	s, code := event.Encode(e)
	if code != api.OK || s == "" {
		t.Fatalf("Encode(%s): %d", short(e), code)
	}
	return s
}

// look holds all that is said of an event against one answer.
func look(t *testing.T, e api.Event, want api.Errno) {
	t.Helper()
	before := clone(e)
	if code := event.Check(e); code != want {
		t.Errorf("Check(%s): %d, not %d", short(e), code, want)
	}
	s, code := event.Encode(e)
	if code != want || (s == "") != (want != api.OK) {
		t.Errorf("Encode(%s): %x, %d, not %d", short(e), s, code, want)
	}
	if size := event.Size(e); size != len(s) {
		t.Errorf("Size(%s): %d, not %d", short(e), size, len(s))
	}
	if !same(e, before) {
		t.Errorf("changed: %s, it was %s", short(e), short(before))
	}
}

// refused: bytes that are no event.
func refused(t *testing.T, s string) {
	t.Helper()
	if e, code := event.Decode(s); code != api.ErrBytes || !reflect.DeepEqual(e, api.Event{}) {
		t.Errorf("Decode(%.60x): %s, %d", s, short(e), code)
	}
}

func someNumber(r *rand.Rand) int {
	return oneOf(r, 1, 2, 3, 8, 127, 128, 129, 16383, 16384, 2097151, 2097152, 268435455, 268435456, 1<<31-1, 1<<31, last-1, last, 1+r.IntN(last))
}

func someWord(r *rand.Rand) string {
	return oneOf(r, "a", "A", "b", "B", "work", "Work", "WORK", "_", "^z", "~", "NIL", "Seen", "recent", "$Junk", "a/b", "+", strings.Repeat("k", 24), strings.Repeat("K", 23))
}

// someFlags is what no one has put in order.
func someFlags(r *rand.Rand, most int) []string {
	out := []string{}
	for range r.IntN(most + 1) {
		out = append(out, oneOf(r, someWord(r), someWord(r), `\Seen`, `\sEEN`, `\Answered`, `\DELETED`, `\Deleted`, `\draft`, `\Draft`, `\Flagged`))
	}
	return out
}

func someForm(r *rand.Rand) []string {
	for {
		if form, code := slowFlags(someFlags(r, 12)); code == api.OK && slowIsForm(form) {
			return form
		}
	}
}

func someName(r *rand.Rand) string {
	return oneOf(r, "a", "b", "a/b", "A", "INBOX/x", "R&D", "日本", "é/ü", "a b", "b/inbox", "a/b/c/d/e/f", strings.Repeat("x", 32), "inboxes",
		strings.Repeat(strings.Repeat("y", 32)+"/", 5)+strings.Repeat("z", 32))
}

func someNames(r *rand.Rand) []string {
	var out []string
	for range 1 + r.IntN(5) {
		if name := someName(r); !slices.Contains(out, name) {
			out = append(out, name)
		}
	}
	return out
}

// someRising is numbers that rise, with the last one at the end now and then.
func someRising(r *rand.Rand, most int) []int {
	var out []int
	for range 1 + r.IntN(most) {
		out = append(out, someNumber(r))
	}
	slices.Sort(out)
	return slices.Compact(out)
}

func someDate(r *rand.Rand) api.Moment {
	return api.Moment{
		Year: oneOf(r, 1, 127, 128, 1970, 2026, 9999), Month: 1 + r.IntN(12), Day: 1 + r.IntN(28), Hour: r.IntN(24), Minute: r.IntN(60), Second: r.IntN(60),
		Zone: oneOf(r, 0, -1439, 1439, -1313, -1312, 60, -300),
	}
}

// someEvent is one that may be.
func someEvent(r *rand.Rand) api.Event {
	names := someNames(r)
	uids := someRising(r, 6)
	box := min(someNumber(r), last-len(names))
	boxes := make([]int, len(names))
	for i := range boxes {
		boxes[i] = box + i
	}
	all := api.Event{
		Number: max(2, someNumber(r)), Kind: oneOf(r, kinds...), Box: someNumber(r), To: someNumber(r), First: min(someNumber(r), last-len(uids)+1),
		Name: oneOf(r, "INBOX", someName(r)), Names: names, Boxes: boxes, Uids: uids, Date: someDate(r),
		Body: strings.Repeat(oneOf(r, "", "x", "\x00", "\xff", "hi\r\n"), oneOf(r, 0, 1, 127, 128, r.IntN(300))),
	}
	for _, uid := range someRising(r, 6) {
		all.Marks = append(all.Marks, api.Mark{Uid: uid, Flags: someForm(r)})
	}
	if all.Kind == api.EventAdd {
		all.Marks = []api.Mark{{Uid: all.First, Flags: someForm(r)}}
	}
	return just(all, fieldsOf(all.Kind)...)
}

func wrongNumber(r *rand.Rand) int {
	return oneOf(r, least, -1, 0, 1, 2, last, last+1, last+2, most, someNumber(r))
}

// spoiled is an event with something turned that need not make it wrong.
func spoiled(r *rand.Rand, e api.Event) api.Event {
	e = clone(e)
	switch r.IntN(12) {
	case 0:
		*oneOf(r, &e.Number, &e.Kind, &e.Box, &e.To, &e.First) = wrongNumber(r)
	case 1:
		e.Kind = r.IntN(14) - 1
	case 2:
		e.Names = append(e.Names, oneOf(r, "INBOX", "inbox", "", "a", "a//b", "\xff", "a%", someName(r)))
	case 3:
		e.Boxes = append(e.Boxes, wrongNumber(r))
	case 4:
		e.Uids = append(e.Uids, wrongNumber(r))
	case 5:
		e.Marks = append(e.Marks, api.Mark{Uid: wrongNumber(r), Flags: someFlags(r, 17)})
	case 6:
		e.Name = oneOf(r, "", "inbox/a", "INBOX", "a/", "a\x7f", someName(r))
	case 7:
		e.Body += oneOf(r, "", "x", strings.Repeat("x", api.MaxLiteral))
	case 8:
		*oneOf(r, &e.Date.Year, &e.Date.Month, &e.Date.Day, &e.Date.Hour, &e.Date.Minute, &e.Date.Second, &e.Date.Zone) = oneOf(r, 0, 1, 12, 13, 23, 24, 29, 31, 59, 60, -1439, -1440, 1439, 1440, -1, 10000, least, most)
	case 9:
		for i := range e.Marks {
			e.Marks[i].Flags = append(e.Marks[i].Flags, oneOf(r, someWord(r), `\Seen`, `\Recent`, "", `\seen`))
		}
	case 10:
		e.Names, e.Boxes = e.Names[:len(e.Names)/2], e.Boxes[:len(e.Boxes)/2]
	case 11:
		slices.Reverse(e.Uids)
		slices.Reverse(e.Marks)
	}
	return e
}
