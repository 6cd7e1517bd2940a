package tool_test

import (
	"fmt"
	"math/rand/v2"
	"reflect"
	"runtime"
	"slices"
	"strings"
	"sync"
	"testing"

	"postbag/api"
	"postbag/event"
	"postbag/store"
	"postbag/tool"
)

// eachList goes through all lists that a value leads to, with their spare room.
func eachList(v reflect.Value, do func(list reflect.Value)) {
	switch v.Kind() {
	case reflect.Struct:
		for i := range v.NumField() {
			eachList(v.Field(i), do)
		}
	case reflect.Slice:
		whole := v.Slice(0, v.Cap())
		for i := range whole.Len() {
			eachList(whole.Index(i), do)
		}
		do(whole)
	}
}

// spoil writes upon all lists of a value, their spare room too.
func spoil(v any) {
	eachList(reflect.ValueOf(v), func(list reflect.Value) {
		for i := range list.Len() {
			list.Index(i).SetZero()
		}
	})
}

// wantApart holds that no two lists share memory, spare room too.
func wantApart(t *testing.T, what string, values ...any) {
	t.Helper()
	type room struct{ from, to uintptr }
	var rooms []room
	for _, v := range values {
		eachList(reflect.ValueOf(v), func(list reflect.Value) {
			if size := uintptr(list.Cap()) * list.Type().Elem().Size(); size > 0 {
				rooms = append(rooms, room{list.Pointer(), list.Pointer() + size})
			}
		})
	}
	slices.SortFunc(rooms, func(a, b room) int { return int(a.from) - int(b.from) })
	for i := 1; i < len(rooms); i++ {
		if rooms[i].from < rooms[i-1].to {
			t.Errorf("P21.7: %s: two lists share memory", what)
		}
	}
}

// asked is what all calls are handed.
type asked struct {
	a, b                *store.Store
	journal, name, text string
}

// answered is what all calls answer.
type answered struct {
	dump, export           string
	check                  []api.Finding
	events                 []api.Event
	lines                  []string
	exportCode, importCode api.Errno
}

func (q asked) all() answered {
	var out answered
	out.dump = tool.Dump(q.journal)
	out.check = tool.Check(q.a, q.journal)
	out.export, out.exportCode = tool.Export(q.a, q.name)
	out.events, out.importCode = tool.Import(q.a, q.name, q.text)
	out.lines = tool.Compare(q.a, q.b)
	return out
}

func (x answered) String() string {
	return fmt.Sprintf("%q %q %d %+v %+v %d %q", x.dump, x.export, x.exportCode, x.check, x.events, x.importCode, x.lines)
}

// stand is how both stores stand.
func (q asked) stand() string { return q.a.Freeze() + "|" + q.b.Freeze() }

// someAsked are questions of all kinds.
func someAsked(t *testing.T, seed uint64) []asked {
	t.Helper()
	r := rand.New(rand.NewPCG(21, seed))
	_, list, _ := stories(t)
	out := []asked{
		{},
		{a: &store.Store{}, journal: joined(list), name: "INBOX", text: someMail(r)},
		{b: rich(t), journal: "x", name: "a", text: "x"},
		{a: fresh(t), b: rich(t), journal: joined(list), name: "INBOX", text: onHead + " a b\nhi\n" + onHead + "\nho\n"},
		{a: rich(t), b: fresh(t), journal: joined(list) + "x", name: "a", text: onHead + " a b\nhi\n" + onHead + " K k\nho\n"},
	}
	for range 25 {
		a := fresh(t)
		journal := joined(frames(t, goOn(r, a, r.IntN(12))...))
		b := a.Twin()
		journal += joined(frames(t, goOn(r, b, r.IntN(8))...)) + behind(r, "")
		goOn(r, a, r.IntN(3))
		text := ""
		for range r.IntN(4) {
			text += someMail(r)
		}
		out = append(out, asked{a, b, journal, oneOf(r, "INBOX", "a", "b", "q"), text})
	}
	return out
}

// P21.7: what is answered is new memory: whoever writes upon it, its spare room too, changes neither the stores nor another answer, nor a later one.
func TestAnswersAreNew(t *testing.T) {
	for i, q := range someAsked(t, 70) {
		what := fmt.Sprint("question ", i)
		was := q.stand()
		one, two := q.all(), q.all()
		want := one.String()
		wantApart(t, what, one.check, one.events, one.lines, two.check, two.events, two.lines)
		spoil(one.check)
		spoil(one.events)
		spoil(one.lines)
		if two.String() != want || q.all().String() != want {
			t.Errorf("P21.7: %s: once an answer is written over, another is\n%v\nnot\n%s", what, q.all(), want)
		}
		if q.stand() != was {
			t.Errorf("P21.7: %s: a store is not as it was", what)
		}
	}
}

// P21.7: events that Import told share nothing with a store that they were applied to, nor with one another.
func TestImportedAreNew(t *testing.T) {
	s := rich(t)
	events := imported(t, s, "a", onHead+" K l\nhi\n"+onHead+" \\Seen k L\nho\n")
	twin := s.Twin()
	apply(t, twin, events...)
	was, before := twin.Freeze(), s.Freeze()
	wantApart(t, "events", events)
	spoil(events)
	if twin.Freeze() != was || s.Freeze() != before {
		t.Errorf("P21.7: a store hangs on the events that were applied to it")
	}
}

// P21.7: texts that are written over behind a call are not looked at again, nor do the answers hang on them.
func TestTextsAreNotKept(t *testing.T) {
	for i, q := range someAsked(t, 71) {
		want := q.all().String()
		journal, name, text := []byte(q.journal), []byte(q.name), []byte(q.text)
		got := asked{q.a, q.b, string(journal), string(name), string(text)}.all()
		clear(journal)
		clear(name)
		clear(text)
		if got.String() != want || q.all().String() != want {
			t.Errorf("P21.7: question %d: %v\nnot\n%s", i, got, want)
		}
	}
}

// P21.7: stores that go on behind a call change nothing of what it answered.
func TestStoresAreNotKept(t *testing.T) {
	r := rand.New(rand.NewPCG(21, 72))
	for i, q := range someAsked(t, 72)[3:] {
		got := q.all()
		want := got.String()
		goOn(r, q.a, 10)
		goOn(r, q.b, 10)
		if got.String() != want {
			t.Errorf("P21.7: question %d: %v\nnot\n%s", i, got, want)
		}
	}
}

// P21.7: nothing is kept from call to call: one behind the other, in another order, and all at the same time.
func TestCallsApart(t *testing.T) {
	t.Parallel()
	list := someAsked(t, 73)
	var want []string
	for _, q := range list {
		want = append(want, q.all().String())
	}
	hold := func(i int) {
		if got := list[i].all().String(); got != want[i] {
			t.Errorf("P21.7: question %d:\n%.500s\nnot\n%.500s", i, got, want[i])
		}
	}
	for i := range list {
		hold(len(list) - 1 - i)
		hold(i)
	}
	var busy sync.WaitGroup
	for i := range list {
		for range 4 {
			busy.Go(func() { hold(i) })
		}
	}
	busy.Wait()
}

// W2, rules 5 and 6: two runs are alike, on one processor as on many, and with stores that stand alike; no goroutine is left.
func TestAlike(t *testing.T) {
	before := runtime.NumGoroutine()
	for i, q := range someAsked(t, 74) {
		want := q.all().String()
		was := runtime.GOMAXPROCS(1)
		one := q.all().String()
		runtime.GOMAXPROCS(was)
		again := asked{copyOf(t, q.a), copyOf(t, q.b), q.journal, q.name, q.text}
		for _, got := range []string{one, q.all().String(), again.all().String(), someAsked(t, 74)[i].all().String()} {
			if got != want {
				t.Errorf("W2: question %d:\n%.500s\nnot\n%.500s", i, got, want)
			}
		}
	}
	if now := runtime.NumGoroutine(); now > before {
		t.Errorf("%d goroutines, not %d", now, before)
	}
}

// W3: beside an error every other result is its zero value.
func TestZeroBesideErrors(t *testing.T) {
	s := rich(t)
	if text, code := tool.Export(s, "q"); text != "" || code != api.ErrBox {
		t.Errorf("W3: %q, %d", text, code)
	}
	for _, text := range []string{onHead + "\nhi\n" + onHead + " (\nhi\n", onHead + "\nhi\nx", strings.Repeat(onHead+"\nhi\n", 65), strings.Repeat("x", 2*api.MaxDisk+1)} {
		if events, code := tool.Import(s, "a", text); events != nil || code == api.OK {
			t.Errorf("W3: %v, %d", events, code)
		}
	}
}

// P21.7, W1: each call ends at random bytes and texts, whatever the store, and says what another make says.
func TestAnyBytes(t *testing.T) {
	r := rand.New(rand.NewPCG(21, 75))
	_, list, _ := stories(t)
	stores := []*store.Store{nil, {}, fresh(t), rich(t), begun(t, end, end, end)}
	texts := []string{joined(list), onHead + " \\Seen k\nhi\n", "From 1 ", onDay, "\n", "\xb7\x01\x00\x00\x00\x02", rich(t).Freeze(), framed(t, api.FrameStore, 2, rich(t).Freeze())}
	for range 4000 {
		text := ""
		for range r.IntN(5) {
			piece := oneOf(r, texts...)
			i := r.IntN(len(piece))
			text += oneOf(r, piece, piece[i:], piece[:i], anyText(r), strings.Repeat(anyText(r), r.IntN(4)))
		}
		s, other := oneOf(r, stores...), oneOf(r, stores...)
		was := s.Freeze()
		name := oneOf(r, "INBOX", "a", text, anyText(r))
		if dump := tool.Dump(text); (dump == "") != (text == "") || dump != "" && !strings.HasSuffix(dump, "\n") {
			t.Errorf("P21.1: Dump of %s: %s", inShort(text), inShort(dump))
		}
		if found := tool.Check(s, text); (len(found) == 0) && text != "" && tool.Dump(text)[0] == 'r' {
			t.Errorf("P21.2: Check of %s tells nothing", inShort(text))
		}
		want, wantCode := slowExport(s, name)
		if got, code := tool.Export(s, name); got != want || code != wantCode {
			t.Errorf("P21.3: Export of %s: %d, %s", inShort(name), code, inShort(got))
		}
		events, wantCode := slowImport(t, s, name, text)
		if got, code := tool.Import(s, name, text); code != wantCode || !slices.EqualFunc(got, events, sameEvent) {
			t.Errorf("P21.4: Import of %s into %s: %d, %+v", inShort(text), inShort(name), code, got)
		}
		if got := tool.Compare(s, other); !slices.Equal(got, slowCompare(s, other)) {
			t.Errorf("P21.6: %q", got)
		}
		if s.Freeze() != was {
			t.Errorf("P21.7: the store is not as it was")
		}
	}
}

// P21.7, W1: long bytes and texts.
func TestLong(t *testing.T) {
	s := rich(t)
	var lines []string
	var olds []api.Finding
	body := bodyOf(t, added(2, 1, day, strings.Repeat("\x01", 1000)))
	e, _ := event.Decode(body)
	var out strings.Builder
	for n := range 4000 {
		e.Number = n + 2
		f := joined(frames(t, e))
		if e.Number <= s.Last() {
			olds = append(olds, old(out.Len()))
		} else if e.Number == s.Last()+1 {
			olds = append(olds, misfit(out.Len()))
		}
		out.WriteString(f)
		lines = append(lines, fmt.Sprint(e.Number, ` add 7 1 "`, onDay, `" () "`, strings.Repeat(`\x01`, 1000), `"`))
	}
	many := out.String()
	wantDump(t, many, lines...)
	wantCheck(t, "many frames", s, many, olds...)
	for _, text := range []string{strings.Repeat("From ", 400000), strings.Repeat(onHead+" ", 50000), "From " + strings.Repeat("1", 2000000), onHead + strings.Repeat(" x", 1000000), strings.Repeat(" ", 2*api.MaxDisk), strings.Repeat("\n", 2*api.MaxDisk)} {
		refuses(t, s, "a", text, api.ErrMbox)
	}
}
