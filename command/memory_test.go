package command_test

import (
	"fmt"
	"reflect"
	"slices"
	"strings"
	"testing"

	"postbag/api"
	"postbag/command"
)

// full are lines of which each has lists in its command.
func full() []string {
	return []string{
		"a FETCH 1,2:*,7 FULL",
		"a FETCH 1 ALL",
		"a FETCH 1 FAST (CHANGEDSINCE 5)",
		"a UID FETCH 1:* (BODY[HEADER.FIELDS (a b c)] BODY.PEEK[1.HEADER.FIELDS.NOT (a b c)]<0.5> UID)",
		"a STORE 1,2,3 +FLAGS (\\Seen a b)",
		"a STORE 1,2,3 FLAGS \\Seen a b",
		"a STATUS x (MESSAGES UIDNEXT UNSEEN)",
		"a SEARCH RETURN (MIN MAX COUNT) OR (1,2 UID 3:*) NOT (SEEN 4,5,6 FROM joe)",
		"a SORT (REVERSE DATE SUBJECT TO) UTF-8 1,2,3 4",
		"a ENABLE x y z",
		"a UID EXPUNGE 1,2,3,4:*",
		"a COPY 1,2,3 x",
	}
}

// lists goes through all lists that a value leads to, those in the spare room too.
func lists(v reflect.Value, do func(list reflect.Value)) {
	switch v.Kind() {
	case reflect.Struct:
		for i := range v.NumField() {
			lists(v.Field(i), do)
		}
	case reflect.Slice:
		whole := v.Slice(0, v.Cap())
		for i := range whole.Len() {
			lists(whole.Index(i), do)
		}
		do(whole)
	}
}

func overwrite(c api.Command) {
	lists(reflect.ValueOf(c), func(list reflect.Value) {
		for i := range list.Len() {
			switch element := list.Index(i); element.Kind() {
			case reflect.Int:
				element.SetInt(-7)
			case reflect.String:
				element.SetString("spoilt")
			default:
				element.SetZero()
			}
		}
	})
}

// apart tells whether no two lists of these commands share memory, spare room too.
func apart(commands ...api.Command) bool {
	type room struct{ from, to uintptr }
	var rooms []room
	for _, c := range commands {
		lists(reflect.ValueOf(c), func(list reflect.Value) {
			if size := uintptr(list.Cap()) * list.Type().Elem().Size(); size > 0 {
				rooms = append(rooms, room{list.Pointer(), list.Pointer() + size})
			}
		})
	}
	slices.SortFunc(rooms, func(a, b room) int { return int(a.from) - int(b.from) })
	for i := 1; i < len(rooms); i++ {
		if rooms[i].from < rooms[i-1].to {
			return false
		}
	}
	return true
}

// P14.1, P14.3 (W2, W6): what is answered is new memory, what is handed in stays as it is.
func TestMemory(t *testing.T) {
	for _, line := range full() {
		first, second := readOk(t, line), readOk(t, line)
		if !apart(first, second) {
			t.Errorf("%s: lists share memory", line)
		}
		want := shown(second)
		overwrite(first)
		if shown(second) != want || shown(readOk(t, line)) != want {
			t.Errorf("%s: what was answered has changed", line)
		}
		form := printOk(t, second)
		if shown(second) != want || printOk(t, second) != form {
			t.Errorf("%s: Print has changed what it was given", line)
		}
	}
	literals := append(make([]string, 0, 8), "user", "pass\xff", "spare")
	c := readOk(t, "a LOGIN {4} {5}", literals[:2]...)
	if fmt.Sprint(literals, literals[:4]) != fmt.Sprint([]string{"user", "pass\xff", "spare"}, []string{"user", "pass\xff", "spare", ""}) {
		t.Error("Read has changed its literals")
	}
	clear(literals)
	if c.User != "user" || c.Pass != "pass\xff" {
		t.Error("what was answered has changed with the literals")
	}
}

// P14.3 (W5, W6): Print takes nil lists and empty ones for the same, and does not look into spare room, nor write there.
func TestSpareRoom(t *testing.T) {
	for _, line := range full() {
		c := readOk(t, line)
		form := printOk(t, c)
		roomy := c
		roomy.Set = append(make([]api.Range, 0, 80), c.Set...)
		roomy.Flags = append(make([]string, 0, 80), c.Flags...)
		roomy.Items = append(make([]api.Item, 0, 80), c.Items...)
		roomy.Names = append([]string{}, c.Names...)
		roomy.By = append(make([]api.By, 0, 80), c.By...)
		roomy.Status = append([]int{}, c.Status...)
		roomy.Returns = append(make([]int, 0, 80), c.Returns...)
		roomy.Key.Kids = append([]api.Key{}, c.Key.Kids...)
		spare := append(roomy.Flags, "spare", "spare")
		if got, e := command.Print(roomy); got != form || e != api.OK {
			t.Errorf("%s: %q, %d", line, got, e)
		}
		if s := strings.Join(spare[len(spare)-2:], " "); s != "spare spare" {
			t.Errorf("%s: the spare room has changed: %s", line, s)
		}
	}
}

// P14.9: what a reader has told may be written over: neither it nor another one tells anything else then.
func TestToldMemory(t *testing.T) {
	one, two := command.New(), command.New()
	for _, line := range full() {
		want := shown(readOk(t, line))
		for _, r := range []*command.Reader{one, two} {
			r.Feed(line + crlf + line + crlf)
			first, _ := r.Next()
			second, is := r.Next()
			if !is || !apart(first.Command, second.Command) {
				t.Fatalf("%s: lists share memory", line)
			}
			overwrite(first.Command)
			if shown(second.Command) != want {
				t.Errorf("%s: what was told has changed", line)
			}
			overwrite(second.Command)
		}
	}
}
