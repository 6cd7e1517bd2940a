package session_test

import (
	"fmt"
	"math/rand/v2"
	"reflect"
	"slices"
	"testing"

	"postbag/api"
)

// eachList goes through all lists that a value leads to, with their spare room.
func eachList(v reflect.Value, do func(list reflect.Value)) {
	switch v.Kind() {
	case reflect.Struct:
		for i := range v.NumField() {
			eachList(v.Field(i), do)
		}
	case reflect.Slice:
		whole := v.Slice(0, v.Cap())
		for i := range whole.Len() {
			eachList(whole.Index(i), do)
		}
		do(whole)
	}
}

// roomy is a copy of a value that shares no list with it, and whose lists have spare room with something in it.
func roomy[E any](v E) E {
	out := reflect.New(reflect.TypeOf(v)).Elem()
	out.Set(copied(reflect.ValueOf(v)))
	return out.Interface().(E)
}

func copied(v reflect.Value) reflect.Value {
	out := reflect.New(v.Type()).Elem()
	switch v.Kind() {
	case reflect.Struct:
		for i := range v.NumField() {
			out.Field(i).Set(copied(v.Field(i)))
		}
	case reflect.Slice:
		list := reflect.MakeSlice(v.Type(), v.Len()+2, v.Len()+2)
		for i := range v.Len() {
			list.Index(i).Set(copied(v.Index(i)))
		}
		for i := range 2 {
			fillIn(list.Index(v.Len() + i))
		}
		out.Set(list.Slice(0, v.Len()))
	default:
		out.Set(v)
	}
	return out
}

func fillIn(v reflect.Value) {
	switch v.Kind() {
	case reflect.Int:
		v.SetInt(5)
	case reflect.String:
		v.SetString("spoilt")
	case reflect.Struct:
		fillIn(v.Field(0))
	default:
		v.SetZero()
	}
}

// shown is all of a value, the spare room of its lists too.
func shown(v any) string {
	out := fmt.Sprintf("%+v", v)
	eachList(reflect.ValueOf(v), func(list reflect.Value) { out += fmt.Sprintf(" %+v", list.Interface()) })
	return out
}

// spoil writes upon all lists of a value, their spare room too.
func spoil(v any) {
	eachList(reflect.ValueOf(v), func(list reflect.Value) {
		for i := range list.Len() {
			list.Index(i).SetZero()
			fillIn(list.Index(i))
		}
	})
}

// wantApart holds that no two lists share memory, spare room too.
func wantApart(t *testing.T, what string, values ...any) {
	t.Helper()
	type room struct{ from, to uintptr }
	var rooms []room
	for _, v := range values {
		eachList(reflect.ValueOf(v), func(list reflect.Value) {
			if size := uintptr(list.Cap()) * list.Type().Elem().Size(); size > 0 {
				rooms = append(rooms, room{list.Pointer(), list.Pointer() + size})
			}
		})
	}
	slices.SortFunc(rooms, func(a, b room) int { return int(a.from) - int(b.from) })
	for i := 1; i < len(rooms); i++ {
		if rooms[i].from < rooms[i-1].to {
			t.Errorf("W6: %s: two lists share memory", what)
		}
	}
}

// inputsOf are the inputs that a line of a connection amounts to.
func inputsOf(t *testing.T, h *house, k int, line string) []api.Input {
	t.Helper()
	h.conns[k].reader.Feed(line + "\r\n")
	var out []api.Input
	for {
		in, is := h.conns[k].reader.Next()
		if !is {
			return out
		}
		out = append(out, in)
		if in.Kind == api.InCommand && in.Command.Verb == api.VerbIdle {
			h.conns[k].reader.Idle(true)
		}
		if in.Kind == api.InDone {
			h.conns[k].reader.Idle(false)
		}
	}
}

// W6: inputs and events are left as they were and not kept; answers and sights are new memory: two houses, in one of which all is written upon as soon as it was used, tell the same.
func TestNothingIsKept(t *testing.T) {
	r := rand.New(rand.NewPCG(17, 99))
	for range 40 {
		rules := someRules()
		plain, spoilt := build(t, 2, rules), build(t, 2, rules)
		for k := range 2 {
			for _, line := range []string{"t LOGIN u p", "t CREATE a", "t APPEND inbox (k) {1+}\r\nx", "t SELECT inbox"} {
				inStep(t, plain, spoilt, k, inputsOf(t, plain, k, line))
			}
		}
		for range 120 {
			k := r.IntN(2)
			if plain.conns[k].Sight().State == api.StateOver {
				break
			}
			inStep(t, plain, spoilt, k, inputsOf(t, plain, k, "t "+someLine(r)))
			if plain.conns[k].Sight().Idle {
				inStep(t, plain, spoilt, k, inputsOf(t, plain, k, "DONE"))
			}
			if t.Failed() {
				return
			}
		}
	}
}

// inStep lets a connection of both houses take inputs, and all others hear of it.
func inStep(t *testing.T, plain, spoilt *house, k int, ins []api.Input) {
	t.Helper()
	for _, in := range ins {
		given := roomy(in)
		before := shown(given)
		last := plain.store().Last()
		want, _ := plain.conns[k].Take(in)
		got, _ := spoilt.conns[k].Take(given)
		if shown(given) != before {
			t.Errorf("W6: the input is %s, was %s", shown(given), before)
		}
		lines := plain.lines(want)
		if !slices.Equal(plain.lines(got), lines) {
			t.Fatalf("W6: %+v: %q, not %q", in, plain.lines(got), lines)
		}
		sight, greeting := spoilt.conns[k].Sight(), spoilt.conns[k].Greet()
		wantApart(t, fmt.Sprintf("%q", lines), given, got, sight, greeting, spoilt.conns[k].Greet())
		for _, used := range []any{given, got, sight, greeting} {
			spoil(used)
		}
		for i, e := range plain.vault.Since(last) {
			heard := roomy(spoilt.vault.Since(last)[i])
			before := shown(heard)
			want := plain.lines(plain.conns[1-k].Hear(e))
			told := spoilt.conns[1-k].Hear(heard)
			if shown(heard) != before || !slices.Equal(plain.lines(told), want) {
				t.Errorf("W6: %s, was %s: %q, not %q", shown(heard), before, plain.lines(told), want)
			}
			wantApart(t, fmt.Sprintf("%q", want), heard, told)
			spoil(heard)
			spoil(told)
		}
		for i := range plain.conns {
			if !reflect.DeepEqual(plain.conns[i].Sight(), spoilt.conns[i].Sight()) {
				t.Errorf("W6: %+v, %+v", plain.conns[i].Sight(), spoilt.conns[i].Sight())
			}
		}
	}
}

// W6: two greetings, two refusals, two lists of capabilities have nothing in common.
func TestNewMemory(t *testing.T) {
	h := twoMails(t)
	take := func(line string) []api.Answer {
		told, _ := h.conns[0].Take(command1(t, line))
		return told
	}
	for _, line := range []string{"a CAPABILITY", "a ENABLE CONDSTORE", "a SEARCH CHARSET x ALL", `a LIST "" *`, "a SELECT inbox", "a FETCH 1:2 (FLAGS UID ENVELOPE BODYSTRUCTURE MODSEQ)", "a UID SEARCH RETURN () ALL", "a UID THREAD REFERENCES utf-8 ALL", "a STATUS inbox (MESSAGES RECENT)", "a STORE 1:2 (UNCHANGEDSINCE 0) FLAGS (x)"} {
		first, second := take(line), take(line)
		wantApart(t, line, first, second)
		want := shown(second)
		spoil(first)
		if shown(second) != want {
			t.Errorf("W6: %q", line)
		}
	}
}
