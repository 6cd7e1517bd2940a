package vault_test

import (
	"fmt"
	"math/rand/v2"
	"reflect"
	"slices"
	"strings"
	"testing"

	"postbag/api"
	"postbag/vault"
)

// P13.6: Hold, Release and Held, of all numbers; nothing of it goes below none, nor to the disk.
func TestHeld(t *testing.T) {
	numbers := []int{least, -1, 0, 1, 6, 7, 8, 9, end, api.MaxNumber, most}
	d := made(t, 20000)
	v := opened(t, d, rules)
	want := map[int]int{}
	held := func(what string) {
		t.Helper()
		for _, n := range numbers {
			if got := v.Held(n); got != want[n] {
				t.Fatalf("%s: Held(%d): %d, not %d", what, n, got, want[n])
			}
		}
	}
	held("at first")
	for _, n := range numbers {
		v.Release(n)
		v.Release(n)
		held("below none")
		for range 3 {
			v.Hold(n)
			want[n]++
			held("Hold")
		}
		for range 2 {
			v.Release(n)
			want[n]--
			held("Release")
		}
	}
	r := rand.New(rand.NewPCG(13, 6))
	for range 2000 {
		n := oneOf(r, numbers...)
		if r.IntN(2) == 0 {
			v.Hold(n)
			want[n]++
		} else {
			v.Release(n)
			want[n] = max(0, want[n]-1)
		}
		held("at random")
	}
	v.Hold(7)
	want[7]++
	committed(t, v, makes("a"), drops("a"), makes("b"), adds("b", "x"))
	v.Recent(7, true)
	v.Recent(9, true)
	held("behind events")
	if steps := d.Steps(); steps != 8 {
		t.Errorf("%d operations", steps)
	}
	d.Plan([]api.Stop{{At: 1}})
	v.Commit(planned(t, v.Store(), makes("c")))
	held("dead")
	v.Hold(8)
	v.Release(7)
	want[8]++
	want[7]--
	held("dead, and on")
	d.Start()
	v = opened(t, d, rules)
	clear(want)
	held("opened again")
}

// recent holds Recent without a claim.
func recent(t *testing.T, what string, v *vault.Vault, validity, want int) {
	t.Helper()
	for range 2 {
		if got := v.Recent(validity, false); got != want {
			t.Errorf("%s: Recent(%d, false): %d, not %d", what, validity, got, want)
		}
	}
}

// claims holds Recent with a claim.
func claims(t *testing.T, what string, v *vault.Vault, validity, want int) {
	t.Helper()
	if got := v.Recent(validity, true); got != want {
		t.Errorf("%s: Recent(%d, true): %d, not %d", what, validity, got, want)
	}
}

// P13.7: of mailboxes that were there at Open and of new ones; claimed once, twice, behind new messages.
func TestRecent(t *testing.T) {
	r := rowOf(t, rules, makes("a"), adds("INBOX", "1"), adds("INBOX", "2"), adds("INBOX", "3"), adds("a", "1"), expunges(7, 3))
	for _, has := range []files{{journal: r.journal(0, 6)}, {checkpoint: r.frozen(6)}, {checkpoint: r.frozen(3), journal: r.journal(2, 6)}} {
		d := filled(t, 20000, has)
		v := opened(t, d, rules)
		recent(t, "there at Open", v, 7, 4)
		recent(t, "there at Open", v, 8, 2)
		recent(t, "not there", v, 9, 0)
		claims(t, "not there", v, 9, 0)
		committed(t, v, adds("INBOX", "4"), makes("b"), adds("b", "1"), adds("b", "2"))
		recent(t, "there at Open, with a new message", v, 7, 4)
		recent(t, "a new one, claimed ahead of its being", v, 9, 1)
		claims(t, "first claim", v, 7, 4)
		recent(t, "behind it", v, 7, 5)
		claims(t, "second claim", v, 7, 5)
		recent(t, "behind it", v, 7, 5)
		claims(t, "of a new one", v, 9, 1)
		recent(t, "of a new one", v, 9, 3)
		recent(t, "of another one", v, 8, 2)
		committed(t, v, adds("INBOX", "5"), adds("INBOX", "6"), adds("b", "3"), expunges(9, 1, 2, 3))
		recent(t, "new messages", v, 7, 5)
		claims(t, "new messages", v, 7, 5)
		claims(t, "new messages", v, 7, 7)
		recent(t, "expunged", v, 9, 3)
		claims(t, "expunged", v, 9, 3)
		claims(t, "expunged", v, 9, 4)
		committed(t, v, renames("b", "c"), adds("c", "4"))
		recent(t, "renamed", v, 9, 0)
		recent(t, "renamed to", v, 10, 1)
		claims(t, "renamed", v, 9, 0)
		claims(t, "renamed to", v, 10, 1)
		recent(t, "renamed to", v, 10, 5)
		committed(t, v, renames("INBOX", "d"))
		recent(t, "INBOX", v, 7, 7)
		recent(t, "what it went to", v, 11, 1)
		committed(t, v, drops("a"))
		recent(t, "dropped", v, 8, 0)
		committed(t, v, makes("a"))
		recent(t, "made again", v, 12, 1)
		for _, validity := range []int{least, -7, -1, 0, 1, 6, 13, end, api.MaxNumber, most} {
			recent(t, "none", v, validity, 0)
			claims(t, "none", v, validity, 0)
		}
		d.Plan([]api.Stop{{At: 1}})
		v.Commit(planned(t, v.Store(), makes("q")))
		recent(t, "dead", v, 10, 5)
		claims(t, "dead", v, 12, 1)
		d.Start()
		v = opened(t, d, rules)
		for validity, want := range map[int]int{7: 7, 8: 0, 9: 0, 10: 5, 11: 7, 12: 1, 13: 0} {
			recent(t, "opened again", v, validity, want)
		}
	}
}

// P13.7: mailboxes whose first uid is not 1.
func TestRecentFirstUid(t *testing.T) {
	d := made(t, 20000)
	numbers := api.Rules{Validity: 3, Uid: 500, Number: 9}
	v := opened(t, d, numbers)
	committed(t, v, makes("a"))
	recent(t, "there at Open", v, 3, 500)
	recent(t, "a new one", v, 4, 1)
	claims(t, "a new one", v, 4, 1)
	recent(t, "a new one", v, 4, 500)
	v = opened(t, d, numbers)
	recent(t, "opened again", v, 4, 500)
}

// P13.6, P13.7: that a mailbox is held says nothing of what is recent, nor the other way.
func TestHeldAndRecent(t *testing.T) {
	v := opened(t, made(t, 20000), rules)
	v.Hold(8)
	committed(t, v, makes("a"), adds("a", "x"), adds("INBOX", "x"))
	recent(t, "held ahead of its being", v, 8, 1)
	v.Hold(7)
	v.Hold(7)
	claims(t, "held", v, 7, 1)
	if v.Held(7) != 2 || v.Held(8) != 1 {
		t.Errorf("%d, %d", v.Held(7), v.Held(8))
	}
	for range 3 {
		v.Release(7)
		v.Release(8)
	}
	recent(t, "released", v, 7, 2)
	recent(t, "released", v, 8, 1)
	if v.Held(7) != 0 || v.Held(8) != 0 {
		t.Errorf("%d, %d", v.Held(7), v.Held(8))
	}
	claims(t, "released", v, 8, 1)
	v.Hold(8)
	v.Release(8)
	recent(t, "claimed, held and released", v, 8, 2)
}

// P13.8: every call of a nil Vault, and of a zero one, again and again.
func TestNothing(t *testing.T) {
	for _, v := range []*vault.Vault{nil, {}} {
		for range 3 {
			for _, n := range []int{least, -1, 0, 1, 7, most} {
				v.Hold(n)
				v.Hold(n)
				v.Release(n)
				if got := v.Held(n); got != 0 {
					t.Errorf("Held: %d", got)
				}
				if a, b := v.Recent(n, false), v.Recent(n, true); a != 0 || b != 0 {
					t.Errorf("Recent: %d, %d", a, b)
				}
				if got := v.Since(n); len(got) != 0 {
					t.Errorf("Since: %v", got)
				}
			}
			if got := v.Sight(); got != (api.VaultSight{}) {
				t.Errorf("Sight: %+v", got)
			}
			if got := v.Store(); got != nil {
				t.Errorf("Store: %v", got)
			}
			wantFail(t, "Commit", v.Commit(planned(t, begun(t, rules), makes("a"))), nothing("commit"))
			wantFail(t, "Checkpoint", v.Checkpoint(), nothing("checkpoint"))
		}
	}
}

// spare is an event whose lists have room behind their ends, with something in it.
func spare(e api.Event) api.Event {
	e = clone(e)
	e.Names = append(e.Names, "spare", "spare")[:len(e.Names)]
	e.Boxes = append(e.Boxes, -3, -3)[:len(e.Boxes)]
	e.Uids = append(e.Uids, -3, -3)[:len(e.Uids)]
	for i := range e.Marks {
		e.Marks[i].Flags = append(e.Marks[i].Flags, "spare", "spare")[:len(e.Marks[i].Flags)]
	}
	e.Marks = append(e.Marks, api.Mark{Uid: -3}, api.Mark{Uid: -3})[:len(e.Marks)]
	return e
}

// whole is an event as a text, the spare room of its lists too.
func whole(e api.Event) string {
	marks := e.Marks[:cap(e.Marks)]
	var out strings.Builder
	for _, m := range marks {
		fmt.Fprintf(&out, "%d %q;", m.Uid, m.Flags[:cap(m.Flags)])
	}
	fmt.Fprintf(&out, "%q %d %d", e.Names[:cap(e.Names)], e.Boxes[:cap(e.Boxes)], e.Uids[:cap(e.Uids)])
	return out.String()
}

// spoil writes over all lists of an event, their spare room too.
func spoil(e api.Event) {
	for _, list := range [][]int{e.Boxes, e.Uids} {
		for i := range list[:cap(list)] {
			list[:cap(list)][i] = -7
		}
	}
	marks := e.Marks[:cap(e.Marks)]
	lists := [][]string{e.Names}
	for i := range marks {
		lists = append(lists, marks[i].Flags)
		marks[i] = api.Mark{Uid: -7}
	}
	for _, list := range lists {
		for i := range list[:cap(list)] {
			list[:cap(list)][i] = "spoilt"
		}
	}
}

// rooms are the places of all lists of events, with their spare room.
func rooms(events []api.Event) [][2]uintptr {
	var out [][2]uintptr
	room := func(list any) {
		v := reflect.ValueOf(list)
		if size := uintptr(v.Cap()) * v.Type().Elem().Size(); size > 0 {
			out = append(out, [2]uintptr{v.Pointer(), v.Pointer() + size})
		}
	}
	room(events)
	for _, e := range events {
		room(e.Names)
		room(e.Boxes)
		room(e.Uids)
		room(e.Marks)
		for _, m := range e.Marks[:cap(e.Marks)] {
			room(m.Flags)
		}
	}
	return out
}

// P13.12: what is handed in is not changed and not kept; what is answered is new memory each time.
func TestMemory(t *testing.T) {
	r := rowOf(t, rules, allKinds()...)
	d := made(t, 20000)
	v := opened(t, d, every(4))
	for i, e := range r.events {
		given := spare(e)
		was := whole(given)
		wantFail(t, "refused", v.Commit(numbered(given, 99)), refused("commit", api.ErrFit))
		if err := v.Commit(given); err != nil {
			t.Fatal(err)
		}
		if whole(given) != was {
			t.Errorf("%+v was changed: %s, was %s", e, whole(given), was)
		}
		spoil(given)
		wantStore(t, "spoilt", v, r.stores[i+1])
		got, again := v.Since(0), v.Since(0)
		if !sameEvents(got, r.events[:i+1]) {
			t.Fatalf("Since: %v, not %v", got, r.events[:i+1])
		}
		places := slices.Concat(rooms(got), rooms(again))
		slices.SortFunc(places, func(a, b [2]uintptr) int { return slices.Compare(a[:], b[:]) })
		for i := 1; i < len(places); i++ {
			if places[i][0] < places[i-1][1] {
				t.Fatal("two answers share memory, or two lists of one")
			}
		}
		for _, e := range got[:cap(got)] {
			spoil(e)
		}
		clear(got[:cap(got)])
		wantStore(t, "answers spoilt", v, r.stores[i+1])
		if !sameEvents(again, r.events[:i+1]) || !sameEvents(v.Since(0), again) {
			t.Errorf("answers share memory")
		}
	}
	wantStore(t, "opened again", opened(t, d, rules), r.stores[len(r.events)])
}

// P13.12: two vaults on two disks, in turns.
func TestTwo(t *testing.T) {
	a, b := rowOf(t, rules, allKinds()...), rowOf(t, rules, makes("x/y"), adds("x", "z"), makes("q"), subscribes("x"), moves(8, "q", 1), drops("x/y"))
	da, db := made(t, 20000), made(t, 20000)
	va, vb := opened(t, da, every(3)), opened(t, db, rules)
	for i := range a.events {
		if err := va.Commit(a.events[i]); err != nil {
			t.Fatal(err)
		}
		n := min(i+1, len(b.events))
		if n == i+1 {
			if err := vb.Commit(b.events[i]); err != nil {
				t.Fatal(err)
			}
		}
		va.Hold(7)
		va.Recent(7, true)
		wantStore(t, "the one", va, a.stores[i+1])
		wantStore(t, "the other", vb, b.stores[n])
		wantFiles(t, "the other", db, files{journal: b.journal(0, n)})
		if va.Held(7) != i+1 || vb.Held(7) != 0 || vb.Recent(7, false) != 1 || len(vb.Since(0)) != n {
			t.Errorf("%d, %d, %d, %v", va.Held(7), vb.Held(7), vb.Recent(7, false), vb.Since(0))
		}
	}
	da.Plan([]api.Stop{{At: 1}})
	if err := va.Checkpoint(); !stopped(err) {
		t.Errorf("no stop: %v", err)
	}
	if err := vb.Checkpoint(); err != nil {
		t.Errorf("the other's stop: %v", err)
	}
}
