package view_test

import (
	"fmt"
	"math/rand/v2"
	"reflect"
	"slices"
	"testing"

	"postbag/api"
	"postbag/view"
)

// withRoom is a list with spare room, and something in it.
func withRoom[E any](list []E, spare E) []E {
	long := append(slices.Clone(list), spare, spare, spare)
	return long[:len(list)]
}

func roomy(e api.Event) api.Event {
	marks := slices.Clone(e.Marks)
	for i := range marks {
		marks[i].Flags = withRoom(marks[i].Flags, "spare")
	}
	e.Names, e.Boxes = withRoom(e.Names, "spare"), withRoom(e.Boxes, 9)
	e.Uids, e.Marks = withRoom(e.Uids, 9), withRoom(marks, mark(9, "spare"))
	return e
}

// eachList goes through all lists that a value leads to, with their spare room.
func eachList(v reflect.Value, do func(list reflect.Value)) {
	switch v.Kind() {
	case reflect.Struct:
		for i := range v.NumField() {
			eachList(v.Field(i), do)
		}
	case reflect.Slice:
		whole := v.Slice(0, v.Cap())
		for i := range whole.Len() {
			eachList(whole.Index(i), do)
		}
		do(whole)
	}
}

// shown is all of a value, the spare room of its lists too.
func shown(v any) string {
	out := fmt.Sprintf("%+v", v)
	eachList(reflect.ValueOf(v), func(list reflect.Value) { out += fmt.Sprintf(" %+v", list.Interface()) })
	return out
}

// spoil writes upon all lists of a value, their spare room too.
func spoil(v any) {
	eachList(reflect.ValueOf(v), func(list reflect.Value) {
		for i := range list.Len() {
			switch element := list.Index(i); element.Kind() {
			case reflect.Int:
				element.SetInt(5)
			case reflect.String:
				element.SetString("spoilt")
			default:
				element.SetZero()
			}
		}
	})
}

// wantApart holds that no two lists share memory, spare room too.
func wantApart(t *testing.T, what string, values ...any) {
	t.Helper()
	type room struct{ from, to uintptr }
	var rooms []room
	for _, v := range values {
		eachList(reflect.ValueOf(v), func(list reflect.Value) {
			if size := uintptr(list.Cap()) * list.Type().Elem().Size(); size > 0 {
				rooms = append(rooms, room{list.Pointer(), list.Pointer() + size})
			}
		})
	}
	slices.SortFunc(rooms, func(a, b room) int { return int(a.from) - int(b.from) })
	for i := 1; i < len(rooms); i++ {
		if rooms[i].from < rooms[i-1].to {
			t.Errorf("%s: two lists share memory", what)
		}
	}
}

// P16.7: the mails are left as they were, and are not kept.
func TestMailsAreNotKept(t *testing.T) {
	given := withRoom([]api.Mail{{Uid: 2, Flags: []string{"a"}}, {Uid: 0}, {Uid: 5}}, api.Mail{Uid: 9})
	box := api.BoxSight{Validity: here, Keywords: withRoom([]string{"k"}, "spare")}
	before := shown(given) + shown(box)
	v := view.New(box, given, 5)
	if shown(given)+shown(box) != before {
		t.Errorf("%s, was %s", shown(given), before)
	}
	spoil(given)
	spoil(box)
	wantUids(t, "spoilt mails", v, 2, 5)
	wantTold(t, "spoilt mails", v.Take(api.WhenAll, 1))
}

// P16.7: an event is left as it was, and is not kept: a mark's flags are copied, and so are the uids that come or go.
func TestEventsAreNotKept(t *testing.T) {
	shared := []string{"a", "b"}
	for what, c := range map[string]struct {
		e    api.Event
		want []api.Told
	}{
		"Add":     {api.Event{Kind: api.EventAdd, Box: here, First: 10, Marks: []api.Mark{mark(10, "a")}}, []api.Told{exists(4), recent(0)}},
		"Copy":    {copies(there, here, 10, 1, 2), []api.Told{exists(5), recent(0)}},
		"Move":    {moves(here, here, 10, 2, 5), []api.Told{gone(1, 2), gone(1, 5), exists(3), recent(0)}},
		"Expunge": {expunges(here, 9, 2), []api.Told{gone(1, 2), gone(2, 9)}},
		"Flags":   {turns(here, 6, api.Mark{Uid: 2, Flags: shared}, api.Mark{Uid: 9, Flags: shared}), []api.Told{flags(1, 2, 6, "a", "b"), flags(3, 9, 6, "a", "b")}},
	} {
		e := roomy(c.e)
		before := shown(e)
		v := viewOf(2, 5, 9)
		v.Hear(e, false)
		if shown(e) != before {
			t.Errorf("%s: %s, was %s", what, shown(e), before)
		}
		spoil(e)
		wantTold(t, what, v.Take(api.WhenAll, most), c.want...)
	}
}

// P16.7: own flags that wait in the place of others' are copied too.
func TestOwnFlagsAreNotKept(t *testing.T) {
	v := viewOf(2)
	first, second := roomy(turns(here, 6, mark(2, "a"))), roomy(turns(here, 7, mark(2, "b", "c")))
	v.Hear(first, false)
	v.Hear(second, true)
	spoil(first)
	spoil(second)
	wantTold(t, "own flags", v.Take(api.WhenAll, 1), flags(1, 2, 7, "b", "c"))
}

// P16.7: marks that share their flags are told with flags of their own; nothing of an answer is in another one.
func TestToldIsNewMemory(t *testing.T) {
	shared := withRoom([]string{"a", "b"}, "spare")
	e := turns(here, 6, api.Mark{Uid: 2, Flags: shared}, api.Mark{Uid: 5, Flags: shared}, api.Mark{Uid: 9, Flags: shared[:1]})
	one, two := viewOf(2, 5, 9), viewOf(2, 5, 9)
	one.Hear(e, false)
	two.Hear(e, false)
	first, second := one.Take(api.WhenAll, 1), two.Take(api.WhenNumbers, 1)
	one.Hear(e, false)
	third := one.Take(api.WhenAll, 1)
	wantApart(t, "told", shared, first, second, third)
	spoil(first)
	want := []api.Told{flags(1, 2, 6, "a", "b"), flags(2, 5, 6, "a", "b"), flags(3, 9, 6, "a")}
	wantTold(t, "the second", second, want...)
	wantTold(t, "the third", third, want...)
	if !slices.Equal(shared[:cap(shared)][:5], []string{"a", "b", "spare", "spare", "spare"}) {
		t.Errorf("the flags are %q", shared[:cap(shared)])
	}
	one.Hear(e, false)
	wantTold(t, "a fourth", one.Take(api.WhenAll, 1), want...)
}

// P16.7: sets are left as they were, and uids that are answered are new memory.
func TestFoundIsNewMemory(t *testing.T) {
	v := viewOf(2, 5, 9)
	hears(v, false, expunges(here, 5), adds(here, 12))
	for _, byUid := range []bool{false, true} {
		for _, pieces := range [][]api.Range{set(1, 3), set(3, 1, 2, 2), set(0, 0, 1, 0), set(2, 9), set(0, most), nil} {
			asked := withRoom(pieces, api.Range{From: 9, To: 9})
			before := shown(asked)
			first, firstGone, e := v.Find(asked, byUid)
			want := slices.Clone(first)
			second, secondGone, f := v.Find(asked, byUid)
			wantApart(t, "found", asked, first, second)
			spoil(first)
			third, _, _ := v.Find(asked, byUid)
			if shown(asked) != before || !slices.Equal(second, want) || !slices.Equal(third, want) || firstGone != secondGone || e != f {
				t.Errorf("Find(%v, %v): %v, %v, %v", asked, byUid, want, second, third)
			}
		}
	}
	first, second := v.Uids(), v.Uids()
	wantApart(t, "uids", first, second)
	spoil(first)
	wantUids(t, "spoilt uids", v, 2, 5, 9)
	wantTold(t, "spoilt answers", v.Take(api.WhenAll, most), gone(2, 5), exists(3), recent(0))
	spoil(second)
	wantUids(t, "spoilt uids", v, 2, 9, 12)
}

// P16.7: long rows of events whose lists are written upon as soon as they were heard, and answers as soon as they came.
func TestNothingIsKept(t *testing.T) {
	r := rand.New(rand.NewPCG(16, 7))
	for range 300 {
		uids := someUids(r)
		m := newSlow(here, uids, 5)
		v := view.New(api.BoxSight{Validity: here}, mails(uids...), 5)
		for range 40 {
			e, own := someEvent(r, m), r.IntN(2) == 0
			given := roomy(e)
			v.Hear(given, own)
			spoil(given)
			m.hear(e, own)
			spoil(v.Uids())
			if r.IntN(4) > 0 {
				continue
			}
			when, from := 1+r.IntN(2), r.IntN(30)
			told := v.Take(when, from)
			wantTold(t, "told", told, m.take(when, from)...)
			wantApart(t, "told", told, v.Uids())
			spoil(told)
			if t.Failed() {
				return
			}
		}
	}
}
