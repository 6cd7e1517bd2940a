package vault_test

import (
	"errors"
	"fmt"
	"slices"
	"strings"
	"testing"

	"postbag/api"
	"postbag/disk"
	"postbag/store"
	"postbag/vault"
)

// deadOn is a vault that died within a commit, on a disk of some events, and one that was just started again.
func deadOn(t *testing.T) (*vault.Vault, *disk.Disk) {
	t.Helper()
	d := made(t, 20000)
	v := opened(t, d, rules)
	committed(t, v, makes("a"), adds("a", "x"))
	d.Plan([]api.Stop{{At: 1}})
	if err := v.Commit(planned(t, v.Store(), adds("a", "y"))); !stopped(err) {
		t.Fatalf("no stop: %v", err)
	}
	return v, d
}

// P13.2, P13.3, P13.8: which error comes first, of nil, zero and dead vaults and of stopped disks.
func TestNotAlive(t *testing.T) {
	fits := planned(t, begun(t, rules), makes("a"))
	events := []api.Event{{}, fits, {Number: 2, Kind: 99}}
	for _, v := range []*vault.Vault{nil, {}} {
		for _, e := range events {
			wantFail(t, "no vault", v.Commit(e), nothing("commit"))
		}
		wantFail(t, "no vault", v.Checkpoint(), nothing("checkpoint"))
	}
	v, d := deadOn(t)
	for range 2 {
		was, steps := on(d), d.Steps()
		for _, e := range append(events, planned(t, v.Store(), drops("a"))) {
			wantFail(t, "dead", v.Commit(e), down("commit"))
		}
		wantFail(t, "dead", v.Checkpoint(), down("checkpoint"))
		wantFiles(t, "dead", d, was)
		if d.Steps() != steps {
			t.Errorf("a dead vault did %d operations", d.Steps()-steps)
		}
		d.Start() // the vault stays dead
	}
}

// P13.2, P13.3: a stop that fell within no operation of the vault's: it refuses as long as the machine has stopped, and goes on behind the start.
func TestStoppedByAnother(t *testing.T) {
	d := made(t, 20000)
	v := opened(t, d, rules)
	committed(t, v, makes("a"))
	e := planned(t, v.Store(), adds("a", "y"))
	was := on(d)
	d.Plan([]api.Stop{{At: 1}})
	d.Sync("nothing")
	for range 2 {
		wantFail(t, "stopped", v.Commit(api.Event{}), down("commit"))
		wantFail(t, "stopped", v.Commit(e), down("commit"))
		wantFail(t, "stopped", v.Checkpoint(), down("checkpoint"))
	}
	wantFiles(t, "stopped", d, was)
	d.Start()
	if err := errors.Join(v.Commit(api.Event{}), v.Commit(e), v.Checkpoint()); err != nil {
		t.Errorf("behind the start: %v", err)
	}
	wantStore(t, "behind the start", opened(t, d, rules), v.Store())
}

// P13.1, P13.2: errors are new memory each time.
func TestErrorsMemory(t *testing.T) {
	v, _ := deadOn(t)
	alive := opened(t, made(t, 1), rules)
	for what, fails := range map[string]func() error{
		"Open":       func() error { _, err := vault.Open(nil, rules); return err },
		"rules":      func() error { _, err := vault.Open(made(t, 1), api.Rules{}); return err },
		"nil":        func() error { return (*vault.Vault)(nil).Checkpoint() },
		"dead":       func() error { return v.Commit(api.Event{}) },
		"refused":    func() error { return alive.Commit(api.Event{Number: 7}) },
		"full":       func() error { return alive.Checkpoint() },
		"full, also": func() error { return alive.Commit(planned(t, alive.Store(), makes("a"))) },
	} {
		a, b := fails().(*api.Fail), fails().(*api.Fail)
		if a == b || *a != *b {
			t.Errorf("%s: %p %+v, %p %+v", what, a, a, b, b)
		}
		was := *b
		*a = api.Fail{Op: "spoilt", Step: 7, Why: api.WhyScript}
		if *b != was || *fails().(*api.Fail) != was {
			t.Errorf("%s: errors share memory", what)
		}
	}
}

// P13.2: a zero event is nothing; one with any field or list is an event, and not taken.
func TestCommitZero(t *testing.T) {
	d := made(t, 20000)
	v := opened(t, d, every(1))
	committed(t, v, makes("a"))
	was, steps := on(d), d.Steps()
	for _, e := range []api.Event{{}, {Names: []string{}, Boxes: []int{}, Uids: []int{}, Marks: []api.Mark{}}, {Uids: make([]int, 0, 5)}} {
		if err := v.Commit(e); err != nil {
			t.Errorf("%+v: %v", e, err)
		}
	}
	for _, e := range []api.Event{
		{Number: 3}, {Number: -1}, {Kind: 1}, {Kind: -1}, {Box: 7}, {To: 7}, {First: 1}, {Name: "a"}, {Names: []string{""}}, {Boxes: []int{0}}, {Uids: []int{0}}, {Marks: []api.Mark{{}}},
		{Date: api.Moment{Zone: 1}}, {Date: api.Moment{Year: 1}}, {Body: "x"}, {Body: "\x00"},
	} {
		wantFail(t, fmt.Sprintf("%+v", e), v.Commit(e), refused("commit", api.ErrFit))
	}
	wantFiles(t, "zero events", d, was)
	if d.Steps() != steps || v.Store().Last() != 2 || len(v.Since(0)) != 1 {
		t.Errorf("%d operations, %d, %v", d.Steps()-steps, v.Store().Last(), v.Since(0))
	}
}

// P13.2: what the store does not take is refused, on a full disk too, and nothing is done.
func TestCommitRefused(t *testing.T) {
	r := rowOf(t, rules, allKinds()...)
	n := len(r.events)
	has := files{journal: r.journal(0, n)}
	for _, quota := range []int{len(has[journal]), 20000} {
		d := filled(t, quota, has)
		v := opened(t, d, every(1))
		steps := d.Steps()
		next := n + 2
		for _, e := range append(r.events,
			api.Event{Number: next, Kind: api.EventDrop, Box: 7}, api.Event{Number: next, Kind: 99}, api.Event{Number: next, Kind: api.EventDrop, Box: least},
			api.Event{Number: next + 1, Kind: api.EventSubscribe, Name: "INBOX"}, api.Event{Number: next - 1, Kind: api.EventSubscribe, Name: "INBOX"},
			api.Event{Number: next, Kind: api.EventUnsubscribe, Name: "a"}, api.Event{Number: next, Kind: api.EventSubscribe, Name: "INBOX", Box: 7},
			api.Event{Number: next, Kind: api.EventSubscribe, Name: "inbox"}, api.Event{Number: next, Kind: api.EventSubscribe, Name: strings.Repeat("x", 1<<20)},
			api.Event{Number: next, Kind: api.EventAdd, Box: 7, Names: make([]string, 1<<16)},
			api.Event{Number: next, Kind: api.EventAdd, Box: 7, First: 9, Marks: []api.Mark{{Uid: 9}}, Date: day},
		) {
			wantFail(t, fmt.Sprintf("%.100v", e), v.Commit(e), refused("commit", api.ErrFit))
		}
		wantFiles(t, "refused", d, has)
		wantStore(t, "refused", v, r.stores[n])
		if d.Steps() != steps || len(v.Since(0)) > 0 {
			t.Errorf("refused: %d operations, %v", d.Steps()-steps, v.Since(0))
		}
	}
}

// P13.2: two operations, the journal's bytes, the store behind it: events of all kinds.
func TestCommit(t *testing.T) {
	r := rowOf(t, rules, allKinds()...)
	d := made(t, 20000)
	v := opened(t, d, rules)
	s := v.Store()
	for i, e := range r.events {
		steps := d.Steps()
		if err := v.Commit(e); err != nil {
			t.Fatalf("%+v: %v", e, err)
		}
		wantFiles(t, "Commit", d, files{journal: r.journal(0, i+1)})
		wantStore(t, "Commit", v, r.stores[i+1])
		if got, want := v.Sight(), (api.VaultSight{Journal: len(r.journal(0, i+1)), Frames: i + 1, From: 1}); got != want || d.Steps() != steps+2 || v.Store() != s {
			t.Errorf("%+v, not %+v; %d operations", got, want, d.Steps()-steps)
		}
		d.Plan([]api.Stop{{At: 1}}) // durable, when it is answered
		d.Read(part)
		d.Start()
		wantFiles(t, "durable", d, files{journal: r.journal(0, i+1)})
	}
	for i, e := range r.events {
		wantOperations(t, fmt.Sprintf("%+v", e), func() (*disk.Disk, func() error) {
			d := filled(t, 20000, files{journal: r.journal(0, i)})
			v := opened(t, d, rules)
			return d, func() error { return v.Commit(e) }
		}, ofCommit...)
	}
}

// lateKinds are, of each kind, an event, the store ahead of it, and whether it brings something.
func lateKinds(t *testing.T) map[int]struct {
	e      api.Event
	s      *store.Store
	brings bool
} {
	t.Helper()
	type late = struct {
		e      api.Event
		s      *store.Store
		brings bool
	}
	out := map[int]late{}
	r := rowOf(t, rules, allKinds()...)
	for i, e := range r.events {
		out[e.Kind] = late{e, r.stores[i], false}
	}
	for _, kind := range []int{1, 3, 4, 5, 8, 9, 10} {
		l := out[kind]
		l.brings = true
		out[kind] = l
	}
	if len(out) != 11 {
		t.Fatalf("%d kinds", len(out))
	}
	return out
}

// P13.2, T10: Used + n + r just at the Quota, and one above, where no checkpoint helps: it would be as long as the one that is there.
func TestQuota(t *testing.T) {
	for kind, l := range lateKinds(t) {
		for _, filler := range []string{"", strings.Repeat("f", 777)} {
			has := files{checkpoint: frozen(l.s), "filler": filler}
			need := len(has[checkpoint]) + len(filler) + len(frameOf(l.e))
			if l.brings {
				need += 8192
			}
			d := filled(t, need, has)
			v := opened(t, d, rules)
			steps := d.Steps()
			if err := v.Commit(l.e); err != nil || d.Steps() != steps+2 {
				t.Errorf("kind %d at the Quota: %v, %d operations", kind, err, d.Steps()-steps)
			}
			for _, less := range []int{1, 2, len(frameOf(l.e))} {
				d = filled(t, need-less, has)
				v = opened(t, d, rules)
				steps = d.Steps()
				wantFail(t, fmt.Sprintf("kind %d, %d below", kind, less), v.Commit(l.e), full("commit", journal))
				wantFiles(t, "refused", d, has)
				wantStore(t, "refused", v, l.s)
				if d.Steps() != steps || len(v.Since(0)) != 0 || d.Down() {
					t.Errorf("kind %d: %d operations, %v", kind, d.Steps()-steps, v.Since(0))
				}
				if less == 1 && !l.brings { // it is refused again and again, and taken where there is room
					d.Truncate("filler", 0)
					if err := v.Commit(l.e); (err == nil) != (filler != "") {
						t.Errorf("kind %d: %v", kind, err)
					}
				}
			}
		}
	}
}

// wordy are events that a checkpoint says in few bytes.
func wordy(t *testing.T) row {
	t.Helper()
	long := strings.Repeat("long ", 60)
	return rowOf(t, rules, adds("INBOX", long), adds("INBOX", "stays"), expunges(7, 1), adds("INBOX", long), expunges(7, 3), turns(7, 1, []int{2}, "k"))
}

// P13.2: a checkpoint that makes room: at every quota of which the disk may be, with and without an old checkpoint; of it the numbers alone decide.
func TestCheckpointMakesRoom(t *testing.T) {
	r := wordy(t)
	n := len(r.events)
	for from := range n {
		has := files{journal: r.journal(from, n)}
		if from > 0 {
			has[checkpoint] = r.frozen(from)
		}
		used := len(has[journal]) + len(has[checkpoint])
		c := r.frozen(n)
		for _, w := range []wish{expunges(7, 2), turns(7, 0, []int{2}, `\Seen`, "many", "words", "of", "many", "letters"), adds("INBOX", "one more"), makes("x")} {
			e := planned(t, r.stores[n], w)
			need, reserve := len(frameOf(e)), 0
			if e.Kind == api.EventAdd || e.Kind == api.EventMake {
				reserve = 8192
			}
			for _, quota := range around(used, used+need+reserve, used+len(c), len(c)+need+reserve) {
				if quota < used {
					continue
				}
				d := filled(t, quota, has)
				v := opened(t, d, rules)
				steps := d.Steps()
				err := v.Commit(e)
				writes := used+need+reserve > quota && len(c) < used && used+len(c) <= quota
				fits := used+need+reserve <= quota || writes && len(c)+need+reserve <= quota
				want, operations := on(filled(t, quota, has)), 0
				if writes {
					want, operations = files{checkpoint: c, journal: ""}, 4
				}
				if fits {
					want[journal] += frameOf(e)
					operations += 2
				}
				what := fmt.Sprintf("from %d, quota %d, kind %d (fits %v, writes %v)", from, quota, e.Kind, fits, writes)
				wantFiles(t, what, d, want)
				if (err == nil) != fits || d.Steps() != steps+operations {
					t.Errorf("%s: %v, %d operations, not %d", what, err, d.Steps()-steps, operations)
				}
				if !fits {
					wantFail(t, what, err, full("commit", journal))
					wantStore(t, what, v, r.stores[n])
				}
				if writes != (v.Sight().From == n+1) {
					t.Errorf("%s: %+v", what, v.Sight())
				}
				wantStore(t, what, opened(t, d, rules), v.Store())
			}
		}
	}
}

// around is all numbers near some.
func around(numbers ...int) []int {
	var out []int
	for _, n := range numbers {
		for i := n - 3; i <= n+3; i++ {
			out = append(out, i)
		}
	}
	return out
}

// P13.2: a checkpoint whose frame is as long as the two files together is not written; if it has one byte less, it is.
func TestCheckpointNotShorter(t *testing.T) {
	r := rowOf(t, rules, makes("1/2/3/4/5/6"))
	c, rows := r.frozen(1), r.journal(0, 1)
	add := planned(t, r.stores[1], adds("1", "x"))
	for _, all := range []int{len(c) - 1, len(c), len(c) + 1} {
		// A frame ahead of the first number is passed over: it makes the journal as long as it is to be.
		filler := framed(api.FrameStore, 1, strings.Repeat("f", all-len(rows)-over))
		d := filled(t, all+len(c), files{journal: filler + rows})
		v := opened(t, d, rules)
		wantFail(t, "no room", v.Commit(add), full("commit", journal))
		want := files{journal: filler + rows}
		if all > len(c) {
			want = files{journal: "", checkpoint: c}
		}
		wantFiles(t, fmt.Sprintf("%d bytes of the journal, %d of the checkpoint", all, len(c)), d, want)
	}
	// Of the two files none alone is longer than the new one: the two together may be.
	for name, writes := range map[string]bool{"a": true, "1/2/3/4/5": true, "1/2/3/4/5/6": false} {
		r := rowOf(t, rules, makes(name))
		has := files{checkpoint: r.frozen(0), journal: r.journal(0, 1)}
		d := filled(t, 1000, has)
		v := opened(t, d, rules)
		wantFail(t, "no room", v.Commit(planned(t, v.Store(), subscribes("INBOX"))), full("commit", journal))
		if writes {
			has = files{checkpoint: r.frozen(1), journal: ""}
		}
		wantFiles(t, "both together", d, has)
	}
}

// P13.2: Every: at which numbers a checkpoint is written, with and without one at the opening.
func TestEvery(t *testing.T) {
	r := rowOf(t, rules, allKinds()...)
	n := len(r.events)
	for _, opening := range []int{0, 3} {
		for _, e := range []int{least, -1, 0, 1, 2, 3, 4, 5, n - 1, n, n + 1, api.MaxNumber, most} {
			has := files{}
			if opening > 0 {
				has[checkpoint] = r.frozen(opening)
			}
			d := filled(t, 20000, has)
			v := opened(t, d, every(e))
			from := opening
			for i := opening; i < n; i++ {
				steps := d.Steps()
				if err := v.Commit(r.events[i]); err != nil {
					t.Fatal(err)
				}
				operations := 2
				if e > 0 && i+1-from >= e {
					from, operations = i+1, 6
					has[checkpoint] = r.frozen(from)
				}
				has[journal] = r.journal(from, i+1)
				wantFiles(t, fmt.Sprintf("Every %d, event %d", e, i+2), d, has)
				if d.Steps() != steps+operations || v.Sight().From != from+1 {
					t.Errorf("Every %d, event %d: %d operations, %+v", e, i+2, d.Steps()-steps, v.Sight())
				}
			}
			wantStore(t, "Every", opened(t, d, rules), r.stores[n])
		}
	}
}

// P13.2: rules of a later opening say how far it is to the next checkpoint; events that were there count, too.
func TestEveryBehindOpen(t *testing.T) {
	r := rowOf(t, rules, allKinds()...)
	for e := range 9 {
		d := filled(t, 20000, files{journal: r.journal(0, 5)})
		v := opened(t, d, every(e))
		if err := v.Commit(r.events[5]); err != nil {
			t.Fatal(err)
		}
		if writes := e > 0 && e <= 6; (v.Sight().Checkpoint > 0) != writes || (v.Sight().From == 7) != writes {
			t.Errorf("Every %d: %+v", e, v.Sight())
		}
	}
}

// P13.2: a checkpoint that is due and has no room is left out, and tried again behind the next event.
func TestEveryWithoutRoom(t *testing.T) {
	long := strings.Repeat("long ", 60)
	r := rowOf(t, rules, adds("INBOX", long), adds("INBOX", long), expunges(7, 1), turns(7, 1, []int{2}, "k"))
	n := len(r.events)
	c := len(r.frozen(n))
	used := len(r.journal(0, n))
	next := planned(t, r.stores[n], expunges(7, 2))
	behind := r.stores[n].Twin()
	behind.Apply(next)
	for _, less := range []int{0, 1} {
		d := filled(t, used+c-less, files{journal: r.journal(0, n-1)})
		v := opened(t, d, every(2))
		if err := v.Commit(r.events[n-1]); err != nil {
			t.Errorf("%d less: %v", less, err)
		}
		if got := v.Sight(); (got.Checkpoint > 0) != (less == 0) || (got.From == 1) == (less == 0) {
			t.Errorf("%d less: %+v", less, got)
		}
		if less == 0 {
			continue
		}
		if err := v.Commit(next); err != nil {
			t.Errorf("then: %v", err)
		}
		// Now it has no message, so its frame is short enough.
		if got := v.Sight(); got != (api.VaultSight{Checkpoint: len(frozen(behind)), From: n + 2}) {
			t.Errorf("then: %+v", got)
		}
		wantStore(t, "then", opened(t, d, rules), behind)
	}
}

// P13.2: a stop within each operation of a commit that writes a checkpoint ahead of it, or behind it, or both, and what is there then.
func TestCommitStops(t *testing.T) {
	r := wordy(t)
	n := len(r.events)
	rows := files{journal: r.journal(0, n)}
	behind := slices.Concat(ofCommit, ofCheckpoint)
	short := planned(t, r.stores[n], expunges(7, 2))
	everyStop(t, "plain", 20000, rows, 0, short, ofCommit, r.stores[n])
	everyStop(t, "the first of a journal", 20000, files{checkpoint: r.frozen(n)}, 0, short, ofCommit, r.stores[n])
	everyStop(t, "a checkpoint behind it", 20000, rows, 1, short, behind, r.stores[n])
	everyStop(t, "a second one behind it", 20000, files{checkpoint: r.frozen(3), journal: r.journal(3, n)}, 4, short, behind, r.stores[n])
	long := planned(t, r.stores[n], turns(7, 0, []int{2}, "many", "words", "that", "make", "a", "frame", "long", "enough", `\Seen`, `\Draft`, `\Answered`))
	quota := len(rows[journal]) + len(frameOf(long)) - 1 // it lacks one byte, but a checkpoint has room
	everyStop(t, "a checkpoint ahead of it", quota, rows, 0, long, slices.Concat(ofCheckpoint, ofCommit), r.stores[n])
	everyStop(t, "one ahead of it and one behind", quota, rows, 1, long, slices.Concat(ofCheckpoint, behind), r.stores[n])
}

// everyStop stops a commit within each of its operations.
func everyStop(t *testing.T, what string, quota int, has files, often int, e api.Event, operations []string, ahead *store.Store) {
	t.Helper()
	behind := ahead.Twin()
	behind.Apply(e)
	there := 1 + slices.Index(operations, "sync "+journal)
	call := func() (*disk.Disk, func() error) {
		d := filled(t, quota, has)
		v := opened(t, d, every(often))
		return d, func() error { return v.Commit(e) }
	}
	wantOperations(t, what, call, operations...)
	text := frameOf(e)
	for at := 1; at <= len(operations); at++ {
		for _, part := range []int{least, 0, 1, 10, len(text) - 1, len(text), most} {
			for _, rest := range []int{least, 0, 1, 10, len(text) - 1, len(text), most} {
				d := filled(t, quota, has)
				v := opened(t, d, every(often))
				steps := d.Steps()
				d.Plan([]api.Stop{{At: at, Part: part, Rest: rest}})
				words := strings.Fields(operations[at-1])
				says := fmt.Sprintf("%s: a stop {%d, %d, %d}", what, at, part, rest)
				wantFail(t, says, v.Commit(e), api.Fail{Op: words[0], Name: words[1], Step: steps + at, Code: api.ErrDown, Why: api.WhyDown})
				wantFail(t, says, v.Commit(e), down("commit"))
				wantFail(t, says, v.Checkpoint(), down("checkpoint"))
				if got := v.Store().Freeze(); got != ahead.Freeze() && got != behind.Freeze() {
					t.Errorf("%s: P13.4: the store of a dead vault is %q", says, got)
				}
				d.Start()
				wantFail(t, says, v.Commit(e), down("commit"))
				// Within the Append all may be there, if all was appended and survived; within the Sync, if it was done or all survived.
				want := ahead
				if at > there || at == there && (part >= 1 || rest >= len(text)) || at == there-1 && part >= len(text) && rest >= len(text) {
					want = behind
				}
				wantStore(t, says, opened(t, d, rules), want)
			}
		}
	}
}
