package mirror_test

import (
	"fmt"
	"reflect"
	"slices"
	"testing"

	"postbag/api"
	"postbag/mirror"
)

// withRoom is a list with spare room, and something in it.
func withRoom[E any](list []E, spare E) []E {
	long := append(slices.Clone(list), spare, spare, spare)
	return long[:len(list)]
}

// eachList goes through all lists that a value leads to, with their spare room.
func eachList(v reflect.Value, do func(list reflect.Value)) {
	switch v.Kind() {
	case reflect.Struct:
		for i := range v.NumField() {
			eachList(v.Field(i), do)
		}
	case reflect.Slice:
		whole := v.Slice(0, v.Cap())
		for i := range whole.Len() {
			eachList(whole.Index(i), do)
		}
		do(whole)
	}
}

// whole is all of a value, the spare room of its lists too.
func whole(v any) string {
	out := fmt.Sprintf("%+v", v)
	eachList(reflect.ValueOf(v), func(list reflect.Value) { out += fmt.Sprintf(" %+v", list.Interface()) })
	return out
}

// spoil writes upon all lists of a value, their spare room too.
func spoil(v any) {
	eachList(reflect.ValueOf(v), func(list reflect.Value) {
		for i := range list.Len() {
			switch element := list.Index(i); element.Kind() {
			case reflect.Int:
				element.SetInt(5)
			case reflect.String:
				element.SetString("spoilt")
			case reflect.Bool:
				element.SetBool(!element.Bool())
			default:
				element.SetZero()
			}
		}
	})
}

// wantApart holds that no two lists share memory, spare room too.
func wantApart(t *testing.T, what string, all ...any) {
	t.Helper()
	type room struct{ from, to uintptr }
	var rooms []room
	for _, v := range all {
		eachList(reflect.ValueOf(v), func(list reflect.Value) {
			if size := uintptr(list.Cap()) * list.Type().Elem().Size(); size > 0 {
				rooms = append(rooms, room{list.Pointer(), list.Pointer() + size})
			}
		})
	}
	slices.SortFunc(rooms, func(a, b room) int { return int(a.from) - int(b.from) })
	for i := 1; i < len(rooms); i++ {
		if rooms[i].from < rooms[i-1].to {
			t.Errorf("P19.7: %s: two lists share memory", what)
		}
	}
}

// P19.7: of a nil mirror Ask and Hear are ErrMirror, whatever they are given; Sight is zero, Resync nothing.
func TestNil(t *testing.T) {
	var none *mirror.Mirror
	for verb := first - 1; verb <= last+1; verb++ {
		if e := none.Ask(api.Command{Tag: "t", Verb: verb}); e != api.ErrMirror {
			t.Errorf("P19.7: Ask: %d", e)
		}
	}
	for _, line := range append(slices.Clone(beginning), "* 1 EXISTS", "* 1 EXPUNGE", "* 1 FETCH (UID 1)", "* OK [UIDNEXT 1] x", "t OK x") {
		if e := none.Hear(tells(t, line)); e != api.ErrMirror {
			t.Errorf("P19.7: Hear %q: %d", line, e)
		}
	}
	if e := none.Hear(api.Answer{}); e != api.ErrMirror {
		t.Errorf("P19.7: Hear: %d", e)
	}
	if s := none.Sight(); !same(s, api.MirrorSight{}) {
		t.Errorf("P19.7: Sight: %+v", s)
	}
	for _, was := range []api.MirrorSight{{}, sight(7, 5, 3, "a"), sight(0, 5, 3, "a")} {
		if l := none.Resync(was); len(l) != 0 {
			t.Errorf("P19.7: Resync: %+v", l)
		}
	}
}

// P19.7: a zero Mirror is as good as a new one, in every call as its first one.
func TestZero(t *testing.T) {
	for what, do := range map[string]func(m *mirror.Mirror) string{
		"Ask": func(m *mirror.Mirror) string { return fmt.Sprint(m.Ask(asks(t, "a SELECT b")), m.Ask(api.Command{})) },
		"Hear": func(m *mirror.Mirror) string {
			return fmt.Sprint(m.Hear(tells(t, "* OK x")), m.Hear(tells(t, "* 1 EXISTS")))
		},
		"Sight":  func(m *mirror.Mirror) string { return fmt.Sprintf("%+v", m.Sight()) },
		"Resync": func(m *mirror.Mirror) string { return fmt.Sprintf("%+v", m.Resync(sight(0, 5, 3, "a"))) },
	} {
		zero := &mirror.Mirror{}
		if one, two := do(zero), do(mirror.New()); one != two {
			t.Errorf("P19.7: %s of a zero one: %s, not %s", what, one, two)
		}
		c := &client{zero, t}
		if what != "Ask" {
			c.ask("a SELECT b")
		}
		c.hear("* 1 EXISTS", "a OK x").want("P19.7: "+what, "0/0/0 0?")
	}
	if mirror.New() == mirror.New() || mirror.New() == nil {
		t.Error("P19.7: New")
	}
}

// P19.7: two mirrors have nothing in common.
func TestTwoMirrors(t *testing.T) {
	one, two := standing(t), standing(t)
	one.Resync(sight(7, 5, 3, "a"))
	one.ask("a NOOP").hear("* 1 FETCH (UID 3)", "* 2 EXPUNGE")
	two.refuse("a OK x", "* 1 EXISTS").want("the other one", stands)
	two.ask("b NOOP").hear("* 1 FETCH (UID 3)").want("the other one", `7/20/4 3? 9(\Seen) 0(k) 12?`)
	one.refuse("b OK x").hear("a OK x").want("the first one", `7/20/4 3(a) 0(k) 12?`)
}

// P19.7: a command is left as it was, and is not kept.
func TestCommandsAreNotKept(t *testing.T) {
	for what, want := range map[string]string{"x STORE 3,7 FLAGS.SILENT (a b)": `7/20/4 0? 9(\Seen) 0? 12?`, "x UID STORE 9,77 FLAGS.SILENT (a b)": "7/20/4 0? 9? 0? 12?"} {
		c := asks(t, what)
		c.Set, c.Flags, c.Names = withRoom(c.Set, api.Range{}), withRoom(c.Flags, "spare"), withRoom([]string{"n"}, "spare")
		c.Items, c.Returns = withRoom([]api.Item{{Kind: 1, Section: api.Section{Names: []string{"a"}}}}, api.Item{}), withRoom([]int{1}, 2)
		before := whole(c)
		x := standing(t).take(c)
		if whole(c) != before {
			t.Errorf("P19.7: %s is changed", what)
		}
		spoil(c)
		x.hear("x OK x").want("P19.7: "+what, want)
	}
}

// P19.7: an answer is left as it was, and is not kept.
func TestAnswersAreNotKept(t *testing.T) {
	flags := withRoom(flagList("a", `\Recent`, "b").Kids, atom("spare"))
	a := fetched(1, datum("UID", number(3)), datum("FLAGS", api.Value{Kind: api.ValueList, Kids: flags}), datum("MODSEQ", values(number(9))))
	a.Data, a.Nums, a.Flags = withRoom(a.Data, datum("UID", number(1))), withRoom([]int{1}, 2), withRoom([]string{"f"}, "spare")
	code := tells(t, "* OK [UIDNEXT 5] x")
	code.Args = withRoom(code.Args, number(9))
	before := whole(a) + whole(code)
	c := standing(t).ask("x NOOP", "y SELECT b").told(a)
	if whole(a) != before[:len(whole(a))] {
		t.Error("P19.7: an answer is changed")
	}
	spoil(a)
	c.want("P19.7: a spoilt FETCH", `7/20/9 3(a b) 9(\Seen) 0(k) 12?`).hear("x OK x").told(code)
	if whole(code) != before[len(before)-len(whole(code)):] {
		t.Error("P19.7: a code is changed")
	}
	spoil(code)
	c.hear("y OK x").want("P19.7: a spoilt code", "0/5/0")
}

// P19.7: a sight is left as it was, and is not kept.
func TestSightsAreNotKept(t *testing.T) {
	was := sight(7, 5, 3, "a b", 10, "c", 11, "?")
	for i := range was.Flags {
		was.Flags[i] = withRoom(was.Flags[i], "spare")
	}
	was.Uids, was.Flags, was.Known = withRoom(was.Uids, 3), withRoom(was.Flags, []string{"spare"}), withRoom(was.Known, true)
	before := whole(was)
	c := standing(t)
	c.Resync(was)
	if whole(was) != before {
		t.Error("P19.7: a sight is changed")
	}
	spoil(was)
	c.ask("x NOOP").hear("* 1 FETCH (UID 3)", "* 3 EXPUNGE", "* 4 EXISTS", "* 4 FETCH (UID 13)").want("P19.7: a spoilt sight", `7/20/4 3(a b) 9(\Seen) 12? 13?`)
}

// P19.7: what is answered is new memory, spare room too: no two answers share any, and no two lists of one.
func TestAnsweredIsNew(t *testing.T) {
	c := standing(t)
	was := sight(7, 5, 1, "a b", 3, "c d", 10, "e")
	three, two := c.Resync(was), c.Resync(was)
	one := standing(t).Resync(api.MirrorSight{})
	c.ask("x NOOP").hear("* 1 FETCH (UID 3)", "* 5 EXISTS")
	s, again := c.Sight(), c.Sight()
	wantApart(t, "sights", s, again, was)
	wantApart(t, "commands", one, two, three)
	before := c.shown()
	for _, v := range []any{s, one, two, three} {
		spoil(v)
	}
	if c.shown() != before || shown(t, again) != before {
		t.Errorf("P19.7: %s, not %s", c.shown(), before)
	}
	c.hear("* 1 EXPUNGE", "* 1 EXPUNGE", "* 1 EXPUNGE", "* 1 EXPUNGE", "* 1 FETCH (UID 3)").want("P19.7: what is remembered", "7/20/4 3(c d)")
	spoil(c.Sight())
	c.hear("* 1 EXPUNGE", "* 1 EXISTS", "* 1 FETCH (UID 3)").want("P19.7: what is remembered, once more", "7/20/4 3(c d)")
	wantCommands(t, "once more", c.Resync(was), uids, since(5))
}

// P19.7: a sight that was taken does not change with what is heard behind it.
func TestSightStays(t *testing.T) {
	c := standing(t)
	s := c.Sight()
	before := whole(s)
	c.ask("x NOOP").hear("* 1 FETCH (UID 3 FLAGS (a))", "* 2 FETCH (FLAGS (b))", "* 3 EXPUNGE", "* 9 EXISTS", "x OK x").ask("y STORE 1:* FLAGS.SILENT ()").hear("y OK x")
	if whole(s) != before {
		t.Errorf("P19.7: %s, not %s", whole(s), before)
	}
}

// P19.7, W1: things that lie deep in one another, long lists, and numbers of all kinds.
func TestDeepAndLong(t *testing.T) {
	deep := atom("x")
	key := api.Key{Kind: api.KeyAll}
	for range 1 << 16 {
		deep = values(deep)
		key = api.Key{Kind: api.KeyNot, Kids: []api.Key{key}}
	}
	c := standing(t).take(api.Command{Tag: "x", Verb: api.VerbSearch, Uid: true, Key: key})
	c.told(fetched(1, datum("ENVELOPE", deep), datum("UID", number(3)))).want("deep", `7/20/4 3? 9(\Seen) 0(k) 12?`)
	for _, name := range []string{"UID", "FLAGS", "MODSEQ"} {
		c.refuses(fetched(1, datum(name, deep)))
	}
	a := state("", api.OutOk)
	a.Code, a.Args = api.CodeNext, []api.Value{deep}
	c.refuses(a)
	a.Code = api.CodeCopy
	c.told(a)
	long := flagList(slices.Repeat([]string{"k"}, 300000)...)
	c.told(fetched(1, datum("FLAGS", long)))
	if s := c.Sight(); len(s.Flags[0]) != 300000 {
		t.Errorf("P19.4: %d flags", len(s.Flags[0]))
	}
	c.hear("x OK x").take(api.Command{Tag: "x", Verb: api.VerbStore, Silent: true, Set: slices.Repeat(set(7, 9), 300000)}).hear("x OK x")
	if !c.Sight().Known[0] {
		t.Error("P19.3: a long set without the number")
	}
	c.take(api.Command{Tag: "x", Verb: api.VerbStore, Silent: true, Set: append(slices.Repeat(set(7, 9), 300000), set(1, 1)...)}).hear("x OK x").want("a long set with it", `7/20/4 3? 9(\Seen) 0(k) 12?`)
}
