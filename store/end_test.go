package store_test

import (
	"fmt"
	"testing"

	"postbag/api"
)

// P12.2 to P12.9, W7: with the last number given, every plan that would bring an event is ErrEnd, behind all its other errors; a zero event never is.
func TestEndOfNumbers(t *testing.T) {
	s := begun(t, 7, 1, end-6)
	done(t, s, makes("a/b"), adds("a", "one", "Work"), adds("a", "two", "Zed"), subscribes("a"), makes("c"), adds("c", "", words(7)...))
	for _, a := range []ask{
		makes("d"), drops("a/b"), renames("a", "e"), renames("INBOX", "e"), adds("a", "x"), flags(8, 1, []int{1}, `\Seen`), expunges(8, 1), copies(8, "INBOX", 1), moves(8, "a", 1),
		subscribes("INBOX"), unsubscribes("a"),
	} {
		if got := a.of(s); got.code != api.OK || got.e.Number != end {
			t.Errorf("%v: %v", a, got)
		}
	}
	done(t, s, adds("INBOX", ""))
	if s.Last() != end {
		t.Fatal(s.Last())
	}
	for _, a := range []ask{
		makes("d"), makes("d/e"), drops("a/b"), renames("a", "e"), renames("INBOX", "e"), adds("a", "x"), flags(8, 1, []int{1}, `\Seen`), flags(8, 0, []int{1, 2}), expunges(8, 1), copies(8, "INBOX", 1),
		moves(8, "a", 1), moves(8, "INBOX", 1, 2), subscribes("INBOX"), unsubscribes("a"),
		{plan: toFlag, box: 8, uids: []int{1, 2}, flags: []string{"k"}, unchanged: end - 5}, // 2 would be left out
	} {
		refuses(t, s, a, api.ErrEnd)
	}
	nothing(t, s, flags(8, 1, []int{1}, "WORK"))
	nothing(t, s, ask{plan: toFlag, box: 8, uids: []int{1, 2}, flags: []string{"k"}, unchanged: 1}, 1, 2)
	nothing(t, s, expunges(8))
	nothing(t, s, copies(8, "a"))
	nothing(t, s, moves(8, "INBOX"))
	nothing(t, s, subscribes("a"))
	nothing(t, s, unsubscribes("q"))
	for _, c := range []struct {
		ask
		code api.Errno
	}{
		{makes("a"), api.ErrThere}, {makes("inbox"), api.ErrCannot}, {drops("a"), api.ErrInferior}, {drops("q"), api.ErrBox}, {renames("a", "c"), api.ErrThere}, {renames("a", "a/x"), api.ErrCannot},
		{adds("a", "", words(9)...), api.ErrLimit}, {adds("q", ""), api.ErrBox}, {flags(8, 1, []int{1}, words(8)...), api.ErrLimit}, {flags(8, 1, []int{3}), api.ErrUid}, {expunges(8, 3), api.ErrUid},
		{copies(8, "c", 1, 2), api.ErrLimit}, {moves(8, "c", 1, 2), api.ErrLimit}, {subscribes("q"), api.ErrBox}, {unsubscribes("%"), api.ErrBox},
	} {
		refuses(t, s, c.ask, c.code)
	}
	// Flags has no plan to ask where it is applied.
	for _, number := range []int{end, end + 1} {
		e := api.Event{Number: number, Kind: api.EventFlags, Box: 8, Marks: []api.Mark{{Uid: 1}}}
		if may, code := s.May(e), s.Apply(e); may != api.ErrFit || code != api.ErrFit {
			t.Errorf("Flags %d: %d, %d", number, may, code)
		}
	}
}

// P12.2, P12.4, W7: validities up to the last one, and one more.
func TestEndOfValidities(t *testing.T) {
	s := begun(t, end-3, 1, 2) // three are left
	done(t, s.Twin(), makes("a/b/c"))
	refuses(t, s, makes("a/b/c/d"), api.ErrEnd)
	refuses(t, s, renames("INBOX", "a/b/c/d"), api.ErrEnd)
	done(t, s.Twin(), renames("INBOX", "a/b/c"))
	done(t, s, makes("a/b"))
	answers(t, s, makes("c"), api.Event{Number: 3, Kind: api.EventMake, Names: []string{"c"}, Boxes: []int{end}})
	answers(t, s, renames("a/b", "c"), api.Event{Number: 3, Kind: api.EventRename, Box: end - 1, Names: []string{"c"}, Boxes: []int{end}})
	refuses(t, s, renames("a", "c"), api.ErrEnd) // two of them
	refuses(t, s, makes("c/d"), api.ErrEnd)
	refuses(t, s, renames("INBOX", "c/d"), api.ErrEnd)
	done(t, s, renames("INBOX", "c"))
	for _, a := range []ask{makes("d"), renames("c", "d"), renames("INBOX", "d")} {
		refuses(t, s, a, api.ErrEnd)
	}
	refuses(t, s, makes("a"), api.ErrThere)
	done(t, s, adds("a", "x"), drops("c"), subscribes("a"), flags(end-2, 0, []int{1}, "k"), copies(end-2, "INBOX", 1), moves(end-2, "a/b", 1))
	refuses(t, s, makes("c"), api.ErrEnd) // none comes again

	s = begun(t, end, 1, 2)
	refuses(t, s, makes("a"), api.ErrEnd)
	refuses(t, s, renames("INBOX", "a"), api.ErrEnd)
	s = begun(t, end-15, 1, 2)
	for i := range 15 {
		done(t, s, makes(fmt.Sprintf("b%02d", i)))
	}
	refuses(t, s, makes("c"), api.ErrLimit) // the limit comes first
	refuses(t, s, renames("INBOX", "c"), api.ErrLimit)
	refuses(t, s, renames("b00", "c"), api.ErrEnd)
}

// P12.5, P12.8, W7: uids up to the last one, and one more.
func TestEndOfUids(t *testing.T) {
	s := begun(t, 7, end-1, 2)
	done(t, s, adds("INBOX", "one"))
	answers(t, s, adds("INBOX", ""), api.Event{Number: 3, Kind: api.EventAdd, Box: 7, First: end, Marks: []api.Mark{{Uid: end}}, Date: day})
	done(t, s, adds("INBOX", "two"))
	if b, _ := s.Box("INBOX"); b.Next != api.MaxNumber {
		t.Errorf("next: %d", b.Next)
	}
	refuses(t, s, adds("INBOX", ""), api.ErrEnd)
	refuses(t, s, adds("INBOX", "", words(9)...), api.ErrLimit)
	refuses(t, s, copies(7, "INBOX", end), api.ErrEnd)
	refuses(t, s, moves(7, "INBOX", end), api.ErrEnd)
	nothing(t, s, copies(7, "INBOX"))
	done(t, s, makes("a"), makes("b"))
	for _, carry := range []func(box int, name string, uids ...int) ask{copies, moves} {
		done(t, s.Twin(), carry(7, "a", end-1, end))
		twin := s.Twin()
		done(t, twin, adds("a", ""))
		refuses(t, twin, carry(7, "a", end-1, end), api.ErrEnd)
		done(t, twin, carry(7, "a", end))
		refuses(t, twin, carry(8, "a", end), api.ErrEnd)
		if b, _ := twin.Box("a"); b.Next != api.MaxNumber {
			t.Errorf("next: %d", b.Next)
		}
	}
	// Nothing else needs a uid.
	done(t, s, flags(7, 0, []int{end - 1, end}, "k"), subscribes("INBOX"), renames("INBOX", "c"))
	refuses(t, s, adds("INBOX", ""), api.ErrEnd) // its next stays
	refuses(t, s, adds("c", ""), api.ErrEnd)
	done(t, s, expunges(10, end-1, end), renames("c", "d"))
	refuses(t, s, adds("d", ""), api.ErrEnd)
}
