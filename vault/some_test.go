package vault_test

import (
	"errors"
	"fmt"
	"math/rand/v2"
	"reflect"
	"slices"
	"strings"
	"testing"

	"postbag/api"
	"postbag/disk"
	"postbag/event"
	"postbag/frame"
	"postbag/store"
	"postbag/vault"
)

const (
	least = -1 << 63
	most  = 1<<63 - 1

	end = api.MaxNumber - 1 // the greatest number of a store

	journal    = "journal"
	checkpoint = "checkpoint"
	part       = "checkpoint.tmp"

	over = 18 // what a frame has more than its body
)

var (
	rules = api.Rules{Validity: 7, Uid: 1, Number: 2}
	day   = api.Moment{Year: 2026, Month: 11, Day: 17, Hour: 9, Zone: 60}
)

func every(n int) api.Rules {
	r := rules
	r.Every = n
	return r
}

func made(t *testing.T, quota int) *disk.Disk {
	t.Helper()
	d, err := disk.New(quota)
	if err != nil {
		t.Fatal(err)
	}
	return d
}

// files is what a disk has to have, by names.
type files map[string]string

// filled is a disk that has just these files, all of their bytes durable.
func filled(t *testing.T, quota int, has files) *disk.Disk {
	t.Helper()
	d := made(t, quota)
	for name, text := range has {
		if err := errors.Join(d.Append(name, text), d.Sync(name)); err != nil {
			t.Fatal(err)
		}
	}
	return d
}

// on is all files that a disk has.
func on(d *disk.Disk) files {
	out := files{}
	for _, name := range d.Names() {
		out[name], _ = d.Peek(name)
	}
	return out
}

func (f files) String() string {
	var out strings.Builder
	for _, name := range []string{part, checkpoint, journal} {
		if text, is := f[name]; is {
			fmt.Fprintf(&out, "%s (%d) %.100q; ", name, len(text), text)
		}
	}
	return out.String()
}

func (f files) but(name string) files {
	out := files{}
	for n, text := range f {
		if n != name {
			out[n] = text
		}
	}
	return out
}

func wantFiles(t *testing.T, what string, d *disk.Disk, want files) {
	t.Helper()
	if got := on(d); !reflect.DeepEqual(got, want) {
		t.Errorf("%s: the disk has %v, not %v", what, got, want)
	}
}

func opened(t *testing.T, d *disk.Disk, rules api.Rules) *vault.Vault {
	t.Helper()
	v, err := vault.Open(d, rules)
	if err != nil || v == nil || v.Store() == nil {
		t.Fatalf("Open: %v, %v", v, err)
	}
	return v
}

// failOf is what an error has, if it is a Fail.
func failOf(err error) api.Fail {
	f, is := err.(*api.Fail)
	if !is || f == nil {
		return api.Fail{Op: fmt.Sprint("no Fail: ", err)}
	}
	return *f
}

func wantFail(t *testing.T, what string, err error, want api.Fail) {
	t.Helper()
	if got := failOf(err); got != want || !errors.Is(err, want.Why) {
		t.Errorf("%s: %+v, not %+v", what, got, want)
	}
}

func down(op string) api.Fail {
	return api.Fail{Op: op, Code: api.ErrDown, Why: api.WhyDown}
}

func broken(name string) api.Fail {
	return api.Fail{Op: "open", Name: name, Code: api.ErrVault, Why: api.WhyBroken}
}

func nothing(op string) api.Fail {
	return api.Fail{Op: op, Code: api.ErrVault, Why: api.WhyRefused}
}

func refused(op string, code api.Errno) api.Fail {
	return api.Fail{Op: op, Code: code, Why: api.WhyRefused}
}

func full(op, name string) api.Fail {
	return api.Fail{Op: op, Name: name, Code: api.ErrQuota, Why: api.WhyQuota}
}

// wish is a plan that is asked of a store.
type wish func(s *store.Store) (api.Event, api.Errno)

func makes(name string) wish {
	return func(s *store.Store) (api.Event, api.Errno) { return s.Make(name) }
}

func drops(name string) wish {
	return func(s *store.Store) (api.Event, api.Errno) { return s.Drop(name) }
}

func renames(from, to string) wish {
	return func(s *store.Store) (api.Event, api.Errno) { return s.Rename(from, to) }
}

func adds(name, body string, flags ...string) wish {
	return func(s *store.Store) (api.Event, api.Errno) { return s.Add(name, flags, day, body) }
}

func turns(box, mode int, uids []int, flags ...string) wish {
	return func(s *store.Store) (api.Event, api.Errno) {
		e, _, code := s.Flags(box, uids, mode, flags, -1)
		return e, code
	}
}

func expunges(box int, uids ...int) wish {
	return func(s *store.Store) (api.Event, api.Errno) { return s.Expunge(box, uids) }
}

func copies(box int, name string, uids ...int) wish {
	return func(s *store.Store) (api.Event, api.Errno) { return s.Copy(box, uids, name) }
}

func moves(box int, name string, uids ...int) wish {
	return func(s *store.Store) (api.Event, api.Errno) { return s.Move(box, uids, name) }
}

func subscribes(name string) wish {
	return func(s *store.Store) (api.Event, api.Errno) { return s.Subscribe(name) }
}

func unsubscribes(name string) wish {
	return func(s *store.Store) (api.Event, api.Errno) { return s.Unsubscribe(name) }
}

// planned is the event of a wish.
func planned(t *testing.T, s *store.Store, w wish) api.Event {
	t.Helper()
	e, code := w(s)
	if code != api.OK || e.Kind == 0 {
		t.Fatalf("no event: %+v, %d", e, code)
	}
	return e
}

// committed lets wishes come true, one by one.
func committed(t *testing.T, v *vault.Vault, wishes ...wish) {
	t.Helper()
	for i, w := range wishes {
		if err := v.Commit(planned(t, v.Store(), w)); err != nil {
			t.Fatalf("the wish %d: %v", i, err)
		}
	}
}

// allKinds are wishes that bring an event of each kind, in a new store of rules.
func allKinds() []wish {
	return []wish{
		makes("a/b"), adds("INBOX", "hello", `\Seen`, "Work"), adds("a", "you"), turns(8, 1, []int{1}, `\Flagged`, "x"), copies(7, "a/b", 1), subscribes("a"),
		moves(7, "a", 1), renames("a", "c/d"), adds("INBOX", "again"), renames("INBOX", "old"), unsubscribes("a"), expunges(11, 1), drops("c/d/b"),
	}
}

// begun is a new store of some rules.
func begun(t *testing.T, rules api.Rules) *store.Store {
	t.Helper()
	s, code := store.New(rules.Validity, rules.Uid, rules.Number)
	if code != api.OK {
		t.Fatalf("New: %d", code)
	}
	return s
}

// row is a row of events, and the stores: one ahead of them all, then one behind each.
type row struct {
	events []api.Event
	stores []*store.Store
}

func rowOf(t *testing.T, rules api.Rules, wishes ...wish) row {
	t.Helper()
	out := row{stores: []*store.Store{begun(t, rules)}}
	for _, w := range wishes {
		s := out.stores[len(out.stores)-1].Twin()
		e := planned(t, s, w)
		if code := s.Apply(e); code != api.OK {
			t.Fatalf("Apply: %d", code)
		}
		out.events, out.stores = append(out.events, e), append(out.stores, s)
	}
	return out
}

// journal is the bytes of the events from one place to another.
func (r row) journal(from, to int) string {
	out := ""
	for _, e := range r.events[from:to] {
		out += frameOf(e)
	}
	return out
}

// frozen is a checkpoint behind so many events.
func (r row) frozen(n int) string { return frozen(r.stores[n]) }

func framed(kind, number int, body string) string {
	text, code := frame.Encode(kind, number, body)
	if code != api.OK {
		panic(fmt.Sprint("no frame: ", code))
	}
	return text
}

func frameOf(e api.Event) string {
	body, code := event.Encode(e)
	if code != api.OK {
		panic(fmt.Sprint("no event: ", code))
	}
	return framed(api.FrameEvent, e.Number, body)
}

func frozen(s *store.Store) string { return framed(api.FrameStore, s.Last(), s.Freeze()) }

// clone shares no memory with what it is made of.
func clone(e api.Event) api.Event {
	e.Names, e.Boxes, e.Uids, e.Marks = slices.Clone(e.Names), slices.Clone(e.Boxes), slices.Clone(e.Uids), slices.Clone(e.Marks)
	for i := range e.Marks {
		e.Marks[i].Flags = slices.Clone(e.Marks[i].Flags)
	}
	return e
}

// sameEvents takes a nil list and an empty one for one.
func sameEvents(a, b []api.Event) bool { return slices.EqualFunc(a, b, sameEvent) }

func sameEvent(a, b api.Event) bool {
	rest := func(e api.Event) api.Event {
		e.Names, e.Boxes, e.Uids, e.Marks = nil, nil, nil, nil
		return e
	}
	return reflect.DeepEqual(rest(a), rest(b)) && slices.Equal(a.Names, b.Names) && slices.Equal(a.Boxes, b.Boxes) && slices.Equal(a.Uids, b.Uids) &&
		slices.EqualFunc(a.Marks, b.Marks, func(m, o api.Mark) bool { return m.Uid == o.Uid && slices.Equal(m.Flags, o.Flags) })
}

// wantStore: a vault stands as this store does.
func wantStore(t *testing.T, what string, v *vault.Vault, want *store.Store) {
	t.Helper()
	if got := v.Store(); got.Freeze() != want.Freeze() {
		t.Errorf("%s: the store is behind %d, %.200q, not behind %d, %.200q", what, got.Last(), got.Freeze(), want.Last(), want.Freeze())
	}
}

// operations are those that a call does on a disk, one by one: each is told by the stop within it. The call is made anew for each.
func operations(t *testing.T, call func() (*disk.Disk, func() error)) []string {
	t.Helper()
	var out []string
	for at := 1; ; at++ {
		d, do := call()
		steps := d.Steps()
		d.Plan([]api.Stop{{At: at}})
		f := failOf(do())
		if !d.Down() {
			if d.Steps() != steps+len(out) {
				t.Errorf("%d operations, of which stops found %q", d.Steps()-steps, out)
			}
			return out
		}
		if f.Code != api.ErrDown || f.Why != api.WhyDown || f.Step != steps+at {
			t.Fatalf("a stop within the operation %d: %+v", at, f)
		}
		out = append(out, f.Op+" "+f.Name)
	}
}

func wantOperations(t *testing.T, what string, call func() (*disk.Disk, func() error), want ...string) {
	t.Helper()
	if got := operations(t, call); !slices.Equal(got, want) {
		t.Errorf("%s: %q, not %q", what, got, want)
	}
}

// The operations by parts of a call.
var (
	ofCommit     = []string{"append " + journal, "sync " + journal}
	ofCheckpoint = []string{"append " + part, "sync " + part, "rename " + part, "truncate " + journal}
)

func oneOf[E any](r *rand.Rand, list ...E) E { return list[r.IntN(len(list))] }
