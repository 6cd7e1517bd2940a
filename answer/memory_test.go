package answer_test

import (
	"math/rand/v2"
	"reflect"
	"slices"
	"testing"

	"postbag/answer"
	"postbag/api"
)

// lists goes through all lists that a value leads to, those in the spare room too.
func lists(v reflect.Value, do func(list reflect.Value)) {
	switch v.Kind() {
	case reflect.Struct:
		for i := range v.NumField() {
			lists(v.Field(i), do)
		}
	case reflect.Slice:
		whole := v.Slice(0, v.Cap())
		for i := range whole.Len() {
			lists(whole.Index(i), do)
		}
		do(whole)
	}
}

func overwrite(a api.Answer) {
	lists(reflect.ValueOf(a), func(list reflect.Value) {
		for i := range list.Len() {
			switch element := list.Index(i); element.Kind() {
			case reflect.Int:
				element.SetInt(-7)
			case reflect.String:
				element.SetString("spoilt")
			default:
				element.SetZero()
			}
		}
	})
}

// apart tells whether no two lists of these answers share memory, spare room too.
func apart(answers ...api.Answer) bool {
	type room struct{ from, to uintptr }
	var rooms []room
	for _, a := range answers {
		lists(reflect.ValueOf(a), func(list reflect.Value) {
			if size := uintptr(list.Cap()) * list.Type().Elem().Size(); size > 0 {
				rooms = append(rooms, room{list.Pointer(), list.Pointer() + size})
			}
		})
	}
	slices.SortFunc(rooms, func(a, b room) int { return int(a.from) - int(b.from) })
	for i := 1; i < len(rooms); i++ {
		if rooms[i].from < rooms[i-1].to {
			return false
		}
	}
	return true
}

// roomy is an answer whose lists have spare room, with something in it.
func roomy(a api.Answer) api.Answer {
	a.Args = withRoom(a.Args, atom("spare"))
	a.Nums = withRoom(a.Nums, 77)
	a.Flags = withRoom(a.Flags, "spare")
	a.Data = withRoom(a.Data, api.Datum{Name: "SPARE"})
	a.Twigs = withRoom(a.Twigs, uid(77))
	a.Set = withRoom(a.Set, api.Range{From: 77, To: 77})
	a.Pairs = withRoom(a.Pairs, atom("spare"))
	return a
}

func withRoom[T any](list []T, spare T) []T {
	long := append(slices.Clone(list), spare, spare, spare)
	return long[:len(list)]
}

// spares is what stands in the spare room of an answer's own lists.
func spares(a api.Answer) string {
	a.Args, a.Nums, a.Flags = a.Args[:cap(a.Args)], a.Nums[:cap(a.Nums)], a.Flags[:cap(a.Flags)]
	a.Data, a.Twigs, a.Set = a.Data[:cap(a.Data)], a.Twigs[:cap(a.Twigs)], a.Set[:cap(a.Set)]
	a.Pairs = a.Pairs[:cap(a.Pairs)]
	return shown(a)
}

// P15.1 (W2, W5, W6): Print leaves what it is given as it was, spare room too, and does not look there.
func TestPrintChangesNothing(t *testing.T) {
	r := rand.New(rand.NewPCG(15, 60))
	for range 3000 {
		a := roomy(someAnswer(r))
		before := spares(a)
		line, e := answer.Print(a)
		again, e2 := answer.Print(a)
		if spares(a) != before || line != again || e != api.OK || e2 != api.OK {
			t.Fatalf("%s: now %s; %q, %q", before, spares(a), line, again)
		}
		tells(t, line, a)
	}
}

// P15.4, P15.5 (W6): what is told is new memory, of which no two lists share any; writing over it changes nothing else.
func TestToldMemory(t *testing.T) {
	r := rand.New(rand.NewPCG(15, 61))
	one, two := answer.New(), answer.New()
	for range 1000 {
		a := someAnswer(r)
		line, _ := slowPrint(a)
		var last []api.Answer
		for _, reader := range []*answer.Reader{one, two} {
			reader.Feed(line + line + line)
			first, _ := reader.Next()
			second, is := reader.Next()
			last = append(last, first, second)
			if !is || !apart(last...) || !apart(a, first, second) {
				t.Fatalf("%q: lists share memory", line)
			}
		}
		overwrite(last[0])
		if shown(last[1]) != shown(a) || shown(last[2]) != shown(a) {
			t.Fatalf("%q: what was told has changed", line)
		}
		for _, reader := range []*answer.Reader{one, two} {
			if third, is := reader.Next(); !is || shown(third) != shown(a) {
				t.Fatalf("%q: what is told has changed: %s", line, shown(third))
			}
		}
	}
}

// P15.1, P15.4 (7a): beside an error, or a false, there is nothing; an answer that is told has what its kind names alone.
func TestNothingBeside(t *testing.T) {
	r := answer.New()
	r.Feed("* 1 FETCH (X (1 2) Y \xff)\r\n")
	if a, is := r.Next(); !is || shown(a) != shown(bad("* 1 FETCH (X (1 2) Y \xff)")) {
		t.Errorf("%s", shown(a))
	}
	if a, is := r.Next(); is || !reflect.ValueOf(a).IsZero() {
		t.Errorf("%s beside false", shown(a))
	}
}
