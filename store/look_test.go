package store_test

import (
	"fmt"
	"reflect"
	"slices"
	"testing"

	"postbag/api"
	"postbag/store"
)

// thawed is a store of the other make that stands as this one does.
func thawed(t *testing.T, s *store.Store) *slow {
	t.Helper()
	c, is := slowThaw(s.Freeze())
	if !is {
		t.Fatalf("no frozen store: %q", s.Freeze())
	}
	return c.thaw()
}

// spoil writes over all memory that a value leads to, the spare room of its lists too.
func spoil(v reflect.Value) {
	switch v.Kind() {
	case reflect.Pointer:
		spoil(v.Elem())
	case reflect.Struct:
		for i := range v.NumField() {
			spoil(v.Field(i))
		}
	case reflect.Slice:
		whole := v.Slice(0, v.Cap())
		for i := range whole.Len() {
			spoil(whole.Index(i))
		}
	case reflect.Int:
		v.SetInt(-7)
	case reflect.String:
		v.SetString("spoilt")
	}
}

// room is where a list lies, with its spare room.
type room struct{ from, to uintptr }

// rooms are those of all lists that a value leads to.
func rooms(v reflect.Value) []room {
	var out []room
	switch v.Kind() {
	case reflect.Pointer:
		return rooms(v.Elem())
	case reflect.Struct:
		for i := range v.NumField() {
			out = append(out, rooms(v.Field(i))...)
		}
	case reflect.Slice:
		if size := uintptr(v.Cap()) * v.Type().Elem().Size(); size > 0 {
			out = append(out, room{v.Pointer(), v.Pointer() + size})
		}
		whole := v.Slice(0, v.Cap())
		for i := range whole.Len() {
			out = append(out, rooms(whole.Index(i))...)
		}
	}
	return out
}

// apart tells whether no two lists of all these values share memory.
func apart(values ...any) bool {
	var all []room
	for _, v := range values {
		all = append(all, rooms(reflect.ValueOf(v))...)
	}
	slices.SortFunc(all, func(a, b room) int {
		if a.from < b.from {
			return -1
		}
		return 1
	})
	for i := 1; i < len(all); i++ {
		if all[i].from < all[i-1].to {
			return false
		}
	}
	return true
}

// P12.11: the orders of what is told.
func TestBoxes(t *testing.T) {
	s := begun(t, 7, 1, 2)
	done(t, s, makes("b/a"), makes("a"), makes("a/b"), makes("a-b"), makes("A"), makes("é"), makes("inbox/z"), makes("Z"), makes("a/B"))
	var names []string
	for _, b := range s.Boxes() {
		names = append(names, b.Name)
	}
	if want := []string{"A", "INBOX", "INBOX/z", "Z", "a", "a-b", "a/B", "a/b", "b", "b/a", "é"}; !slices.Equal(names, want) {
		t.Errorf("Boxes: %q, not %q", names, want)
	}
	done(t, s, subscribes("b/a"), subscribes("é"), subscribes("a-b"), subscribes("INBOX"), subscribes("a"), subscribes("a/b"))
	if got, want := s.Subscribed(), []string{"INBOX", "a", "a-b", "a/b", "b/a", "é"}; !slices.Equal(got, want) {
		t.Errorf("Subscribed: %q, not %q", got, want)
	}
	done(t, s, adds("a", "", "b", `\Seen`, "_x"), adds("a", "", "C", "a", `\Draft`), adds("a", "", "^", "B"), adds("a", "", "Zz", "c"), adds("a", "", `\Seen`))
	b, code := s.Box("a")
	if want := []string{"^", "_x", "a", "b", "C", "Zz"}; code != api.OK || !slices.Equal(b.Keywords, want) || b.Unseen != 3 || b.Count != 5 || !b.Subscribed {
		t.Errorf("Box: %+v, %d", b, code)
	}
	done(t, s, flags(10, 0, []int{1, 4}, `\Seen`), expunges(10, 2))
	if b, _ := s.Box("a"); !slices.Equal(b.Keywords, []string{"^", "b"}) || b.Unseen != 1 || b.Count != 4 {
		t.Errorf("what is forgotten: %+v", b)
	}
	mails, code := s.Mails(10)
	if code != api.OK || len(mails) != 4 {
		t.Fatalf("Mails: %v, %d", mails, code)
	}
	for i, m := range mails {
		if want := []int{1, 3, 4, 5}[i]; m.Seq != i+1 || m.Uid != want || m.Recent {
			t.Errorf("Mails: %+v", m)
		}
	}
}

// P12.11: Box and By, of what is there and of what is not.
func TestBox(t *testing.T) {
	s := rich(t)
	for _, want := range s.Boxes() {
		box, code := s.Box(want.Name)
		by, other := s.By(want.Validity)
		if code != api.OK || other != api.OK || !reflect.DeepEqual(box, want) || !reflect.DeepEqual(by, want) {
			t.Errorf("%+v: Box %+v, %d; By %+v, %d", want, box, code, by, other)
		}
	}
	for _, name := range []string{"inbox", "Inbox", "INBOX"} {
		if b, code := s.Box(name); code != api.OK || b.Name != "INBOX" || b.Validity != 7 {
			t.Errorf("Box(%q): %+v, %d", name, b, code)
		}
	}
	for _, name := range append(noNames, "q", "C", "a/c", "a/B", "a/b/c", "inbox/x", "a/") {
		if b, code := s.Box(name); code != api.ErrBox || !reflect.DeepEqual(b, api.BoxSight{}) {
			t.Errorf("Box(%.20q): %+v, %d", name, b, code)
		}
	}
	for _, validity := range []int{least, -7, 0, 1, 6, 11, 12, end, most} {
		b, code := s.By(validity)
		mails, other := s.Mails(validity)
		if code != api.ErrBox || other != api.ErrBox || !reflect.DeepEqual(b, api.BoxSight{}) || mails != nil {
			t.Errorf("By(%d): %+v, %d; Mails %v, %d", validity, b, code, mails, other)
		}
	}
	if mails, code := begun(t, 7, 1, 2).Mails(7); code != api.OK || len(mails) != 0 {
		t.Errorf("Mails of an empty one: %v, %d", mails, code)
	}
}

// P12.11: twins go their own ways, whoever of the two goes on.
func TestTwin(t *testing.T) {
	for kind, a := range every() {
		for _, of := range []func(s *store.Store) (moved, stays *store.Store){
			func(s *store.Store) (*store.Store, *store.Store) { return s, s.Twin() },
			func(s *store.Store) (*store.Store, *store.Store) { return s.Twin(), s },
			func(s *store.Store) (*store.Store, *store.Store) { twin := s.Twin(); return twin, twin.Twin() },
		} {
			moved, stays := of(rich(t))
			before := told(stays) + stays.Freeze()
			if told(moved)+moved.Freeze() != before {
				t.Fatalf("a twin stands otherwise:\n%s\nnot\n%s", told(moved), before)
			}
			done(t, moved, a)
			if told(stays)+stays.Freeze() != before || told(moved)+moved.Freeze() == before {
				t.Errorf("kind %d: the twin moved too", kind)
			}
			for other, b := range every() {
				if got, want := b.of(stays), b.of(rich(t)); !got.same(want) {
					t.Errorf("kind %d, then %d: %v, not %v", kind, other, got, want)
				}
			}
			// Both go on by themselves, on the same lists.
			done(t, stays, a)
			if told(moved)+moved.Freeze() != told(stays)+stays.Freeze() {
				t.Errorf("kind %d: twins that did the same differ", kind)
			}
			done(t, moved, adds("INBOX", "mine"), makes("mine"), subscribes("mine"))
			done(t, stays, adds("INBOX", "yours"), makes("yours"), subscribes("yours"))
			one, _ := moved.Mails(7)
			two, _ := stays.Mails(7)
			if one[len(one)-1].Raw != "mine" || two[len(two)-1].Raw != "yours" || slices.Contains(moved.Subscribed(), "yours") || slices.Contains(stays.Subscribed(), "mine") {
				t.Errorf("kind %d: twins share", kind)
			}
		}
	}
}

// W6: what is handed in is neither changed nor kept; what is answered is new memory.
func TestMemory(t *testing.T) {
	s := rich(t)
	done(t, s, subscribes("c"), adds("a", "six", "Work", "new", `\Seen`))
	before := told(s) + s.Freeze()
	look := func() []any {
		out := []any{s.Boxes(), s.Subscribed()}
		for _, validity := range []int{7, 8, 9, 10} {
			b, _ := s.By(validity)
			mails, _ := s.Mails(validity)
			out = append(out, &b, mails)
		}
		b, _ := s.Box("a")
		return append(out, &b)
	}
	all := append(look(), look()...)
	for _, a := range every() {
		for range 2 {
			spare := func(list []string) []string { return append(make([]string, 0, len(list)+3), list...) }
			a.flags = spare(a.flags)
			a.uids = append(make([]int, 0, len(a.uids)+3), a.uids...)
			whole, uids := slices.Clone(a.flags[:cap(a.flags)]), slices.Clone(a.uids[:cap(a.uids)])
			got := a.of(s)
			if !slices.Equal(a.flags[:cap(a.flags)], whole) || !slices.Equal(a.uids[:cap(a.uids)], uids) {
				t.Errorf("%v: what is handed in is changed", a)
			}
			all = append(all, &got.e, got.left, a.flags, a.uids)
		}
	}
	e, left, _ := s.Flags(8, []int{1, 2, 3, 4}, 0, []string{"k", "l"}, 4)
	if len(left) != 2 || len(e.Marks) != 2 {
		t.Fatal(e, left)
	}
	all = append(all, &e, left)
	if !apart(all...) {
		t.Error("answers share memory")
	}
	for _, v := range all {
		spoil(reflect.ValueOf(v))
	}
	if told(s)+s.Freeze() != before {
		t.Error("an answer leads into the store")
	}
}

// P12.15: every call of a nil store and of a zero one.
func TestNothing(t *testing.T) {
	var none *store.Store
	long, many := make([]int, 65), make([]string, 17)
	empty := &slow{}
	for what, s := range map[string]*store.Store{"nil": none, "zero": {}, "a twin of nil": none.Twin(), "a twin of zero": (&store.Store{}).Twin()} {
		for _, c := range []struct {
			ask
			code api.Errno
		}{
			{makes("a"), api.ErrLimit}, {makes("a/b/c"), api.ErrLimit}, {makes("a%"), api.ErrCannot}, {makes("inbox"), api.ErrCannot}, {makes("inbox/x"), api.ErrLimit},
			{drops("INBOX"), api.ErrCannot}, {drops("a"), api.ErrBox}, {drops("a%"), api.ErrBox}, {drops(""), api.ErrBox},
			{renames("a", "b"), api.ErrBox}, {renames("INBOX", "b"), api.ErrBox}, {renames("a%", "b"), api.ErrBox}, {renames("a", "b%"), api.ErrCannot}, {renames("a", "a/b"), api.ErrCannot}, {renames("a", "inbox"), api.ErrCannot}, {renames("a", "a"), api.ErrBox},
			{adds("INBOX", ""), api.ErrBox}, {adds("", ""), api.ErrCannot}, {adds("a", "", "a b"), api.ErrMark}, {ask{plan: toAdd, name: "a"}, api.ErrArg}, {adds("", "", many...), api.ErrLong}, {adds("a", "", words(9)...), api.ErrBox},
			{adds("a", string(make([]byte, api.MaxLiteral+1))), api.ErrLong},
			{flags(7, 0, nil), api.ErrBox}, {flags(0, 0, nil), api.ErrBox}, {flags(0, 0, []int{2, 1}), api.ErrBox}, {flags(0, 0, long), api.ErrLong}, {flags(0, 2, nil), api.ErrArg}, {flags(0, 1, nil, many...), api.ErrLong},
			{flags(0, 1, nil, `\Recent`), api.ErrMark}, {ask{plan: toFlag, unchanged: -2}, api.ErrNumber}, {ask{plan: toFlag, unchanged: 5}, api.ErrBox},
			{expunges(0), api.ErrBox}, {expunges(7, 1), api.ErrBox}, {expunges(7, long...), api.ErrLong},
			{copies(7, "a"), api.ErrBox}, {copies(7, "a", 2, 1), api.ErrBox}, {copies(7, "a%"), api.ErrCannot}, {copies(7, "a%", long...), api.ErrLong},
			{moves(7, "INBOX"), api.ErrBox}, {moves(0, "INBOX", 1), api.ErrBox}, {moves(7, ""), api.ErrCannot}, {moves(7, "a", long...), api.ErrLong},
			{subscribes("INBOX"), api.ErrBox}, {subscribes("a%"), api.ErrBox}, {unsubscribes("INBOX"), api.ErrBox}, {unsubscribes("a"), api.ErrBox}, {unsubscribes("a%"), api.ErrBox},
		} {
			if got := c.of(s); !got.same(answer{code: c.code}) {
				t.Errorf("%s: %v: %v, not %d", what, c.ask, got, c.code)
			}
			if want := empty.plan(c.ask); want.code != c.code {
				t.Errorf("the other make: %v: %v, not %d", c.ask, want, c.code)
			}
		}
		for kind, a := range every() {
			if e := a.of(rich(t)).e; s.May(e) != api.ErrFit || s.Apply(e) != api.ErrFit {
				t.Errorf("%s: kind %d", what, kind)
			}
		}
		for _, number := range []int{-1, 0, 1, 2} {
			for kind := range 13 {
				for _, e := range []api.Event{{Number: number, Kind: kind}, {Number: number, Kind: kind, Names: []string{"INBOX"}, Boxes: []int{1}}, {Number: number, Kind: kind, Names: []string{"a"}, Boxes: []int{0}}} {
					if s.May(e) != api.ErrFit || s.Apply(e) != api.ErrFit {
						t.Errorf("%s: %+v", what, e)
					}
				}
			}
		}
		box, a := s.Box("INBOX")
		by, b := s.By(0)
		mails, c := s.Mails(0)
		if a != api.ErrBox || b != api.ErrBox || c != api.ErrBox || fmt.Sprint(box, by, mails) != fmt.Sprint(api.BoxSight{}, api.BoxSight{}, []api.Mail{}) {
			t.Errorf("%s: Box %d, By %d, Mails %d", what, a, b, c)
		}
		if len(s.Boxes()) != 0 || len(s.Subscribed()) != 0 || s.Last() != 0 || s.Freeze() != "" || s.Twin() == nil || !reflect.DeepEqual(*s.Twin(), store.Store{}) {
			t.Errorf("%s: %s", what, told(s))
		}
	}
	if s, code := store.Thaw(""); s != nil || code != api.ErrThaw {
		t.Errorf("Thaw of nothing: %v, %d", s, code)
	}
}
