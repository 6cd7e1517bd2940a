package vault_test

import (
	"fmt"
	"strings"
	"testing"

	"postbag/api"
	"postbag/disk"
	"postbag/store"
	"postbag/vault"
)

// checkpointCases are vaults that may write a checkpoint: the files, and which operations it takes.
func checkpointCases(t *testing.T) map[string]struct {
	has        files
	operations []string
	store      *store.Store
} {
	t.Helper()
	type c = struct {
		has        files
		operations []string
		store      *store.Store
	}
	r := rowOf(t, rules, allKinds()...)
	n := len(r.events)
	return map[string]c{
		"nothing":                     {files{}, ofCheckpoint[:3], r.stores[0]},
		"an empty journal":            {files{journal: ""}, ofCheckpoint, r.stores[0]},
		"a journal":                   {files{journal: r.journal(0, n)}, ofCheckpoint, r.stores[n]},
		"a checkpoint":                {files{checkpoint: r.frozen(n)}, ofCheckpoint[:3], r.stores[n]},
		"a checkpoint, and no events": {files{checkpoint: r.frozen(4), journal: ""}, ofCheckpoint, r.stores[4]},
		"both":                        {files{checkpoint: r.frozen(4), journal: r.journal(4, 8)}, ofCheckpoint, r.stores[8]},
		"frames that are passed over": {files{checkpoint: r.frozen(4), journal: r.journal(1, 8)}, ofCheckpoint, r.stores[8]},
	}
}

// P13.3: the operations, what they leave, and From.
func TestCheckpoint(t *testing.T) {
	for what, c := range checkpointCases(t) {
		wantOperations(t, what, func() (*disk.Disk, func() error) {
			d := filled(t, 20000, c.has)
			return d, opened(t, d, rules).Checkpoint
		}, c.operations...)
		d := filled(t, 20000, c.has)
		v := opened(t, d, rules)
		for range 3 {
			if err := v.Checkpoint(); err != nil {
				t.Errorf("%s: %v", what, err)
			}
			want := files{checkpoint: frozen(c.store)}
			if _, is := c.has[journal]; is {
				want[journal] = ""
			}
			wantFiles(t, what, d, want)
			wantStore(t, what, v, c.store)
			if got, want := v.Sight(), (api.VaultSight{Checkpoint: len(frozen(c.store)), From: c.store.Last()}); got != want {
				t.Errorf("%s: %+v, not %+v", what, got, want)
			}
			d.Plan([]api.Stop{{At: 1}})
			d.Read(part)
			d.Start()
			wantFiles(t, what+": durable", d, want)
		}
		wantStore(t, what, opened(t, d, rules), c.store)
		committed(t, v, makes("later"))
		wantStore(t, what, opened(t, d, rules), v.Store())
	}
}

// P13.3: Used and the frame at the Quota, and one above: then nothing is done, and the vault lives on.
func TestCheckpointQuota(t *testing.T) {
	for what, c := range checkpointCases(t) {
		for _, filler := range []string{"", "filler"} {
			has := c.has.but("")
			has["filler"] = filler
			quota := len(has[journal]) + len(has[checkpoint]) + len(filler) + len(frozen(c.store))
			for less := range 3 {
				d := filled(t, quota-less, has)
				v := opened(t, d, rules)
				steps := d.Steps()
				was, sight := on(d), v.Sight()
				err := v.Checkpoint()
				if less == 0 {
					if err != nil {
						t.Errorf("%s: %v", what, err)
					}
					continue
				}
				wantFail(t, what, err, full("checkpoint", part))
				wantFiles(t, what, d, was)
				if d.Steps() != steps || v.Sight() != sight {
					t.Errorf("%s: %d operations, %+v, was %+v", what, d.Steps()-steps, v.Sight(), sight)
				}
				d.Truncate("filler", 0)
				if err := v.Checkpoint(); (err == nil) != (filler != "") {
					t.Errorf("%s: %v", what, err)
				}
			}
		}
	}
}

// P13.3: a stop within each operation: the vault is dead, and behind the start the store is the same.
func TestCheckpointStops(t *testing.T) {
	for what, c := range checkpointCases(t) {
		for at := 1; at <= len(c.operations); at++ {
			for _, done := range []int{least, 0, 1, 20, most} {
				for _, rest := range []int{least, 0, 1, 20, most} {
					d := filled(t, 20000, c.has)
					v := opened(t, d, rules)
					steps := d.Steps()
					d.Plan([]api.Stop{{At: at, Part: done, Rest: rest}})
					words := strings.Fields(c.operations[at-1])
					says := fmt.Sprintf("%s: a stop {%d, %d, %d}", what, at, done, rest)
					wantFail(t, says, v.Checkpoint(), api.Fail{Op: words[0], Name: words[1], Step: steps + at, Code: api.ErrDown, Why: api.WhyDown})
					wantFail(t, says, v.Checkpoint(), down("checkpoint"))
					d.Start()
					wantFail(t, says, v.Checkpoint(), down("checkpoint"))
					wantFail(t, says, v.Commit(api.Event{}), down("commit"))
					w := opened(t, d, rules)
					wantStore(t, says, w, c.store)
					if d.Size(part) >= 0 {
						t.Errorf("%s: %s is there", says, part)
					}
					if renamed := at == 4 || at == 3 && done >= 1; renamed && w.Sight().From != c.store.Last() {
						t.Errorf("%s: %+v", says, w.Sight())
					}
					if err := w.Checkpoint(); err != nil {
						t.Errorf("%s: %v", says, err)
					}
				}
			}
		}
	}
}

// P13.4: the store is one and the same, as long as the vault lives.
func TestStore(t *testing.T) {
	d := made(t, 20000)
	v := opened(t, d, every(3))
	s := v.Store()
	for _, w := range allKinds() {
		committed(t, v, w)
		v.Commit(api.Event{})
		v.Commit(api.Event{Kind: 5})
		if v.Store() != s {
			t.Fatal("another store")
		}
	}
	if err := v.Checkpoint(); err != nil || v.Store() != s {
		t.Errorf("another store behind a checkpoint: %v", err)
	}
	w := opened(t, d, rules)
	if w.Store() == s {
		t.Error("two vaults have one store")
	}
	if (*vault.Vault)(nil).Store() != nil || new(vault.Vault).Store() != nil {
		t.Error("P13.8: a store of nothing")
	}
}

// P13.5: Since: at all numbers, of what this vault committed alone, behind checkpoints too.
func TestSince(t *testing.T) {
	r := rowOf(t, rules, allKinds()...)
	n := len(r.events)
	for _, opening := range []int{0, 1, 5} {
		for _, often := range []int{0, 2} {
			d := filled(t, 20000, files{journal: r.journal(0, opening)})
			v := opened(t, d, every(often))
			for i := opening; i <= n; i++ {
				for number := -2; number < n+5; number++ {
					want := r.events[max(opening, min(number-1, i)):i]
					if got := v.Since(number); !sameEvents(got, want) {
						t.Errorf("Since(%d) behind %d, from %d on: %v, not %v", number, i+1, opening+1, got, want)
					}
				}
				for _, number := range []int{least, least + 1, -api.MaxNumber, api.MaxNumber, most - 1, most} {
					want := r.events[opening:i]
					if number > 0 {
						want = nil
					}
					if got := v.Since(number); !sameEvents(got, want) {
						t.Errorf("Since(%d): %v", number, got)
					}
				}
				if i < n {
					if err := v.Commit(r.events[i]); err != nil {
						t.Fatal(err)
					}
				}
			}
			wantFail(t, "refused", v.Commit(r.events[0]), refused("commit", api.ErrFit))
			if got := v.Since(0); len(got) != n-opening {
				t.Errorf("what was refused is told: %v", got)
			}
			if got := opened(t, d, rules).Since(0); len(got) != 0 {
				t.Errorf("another vault tells: %v", got)
			}
		}
	}
}

// P13.5: of a dead vault Since and Sight end, and Since tells what was answered.
func TestDeadTells(t *testing.T) {
	v, d := deadOn(t)
	for range 2 {
		if got := v.Since(1); len(got) < 2 || len(got) > 3 || got[0].Kind != api.EventMake || got[1].Kind != api.EventAdd {
			t.Errorf("%v", got)
		}
		v.Sight()
		if v.Store().Last() < 3 || v.Store().Last() > 4 {
			t.Errorf("%d", v.Store().Last())
		}
		d.Start()
	}
}

// P13.5: Sight with and without each file.
func TestSight(t *testing.T) {
	r := rowOf(t, rules, allKinds()...)
	d := made(t, 20000)
	v := opened(t, d, rules)
	want := func(what string, want api.VaultSight) {
		t.Helper()
		if got := v.Sight(); got != want {
			t.Errorf("%s: %+v, not %+v", what, got, want)
		}
	}
	want("no file", api.VaultSight{From: 1})
	for i := range 4 {
		if err := v.Commit(r.events[i]); err != nil {
			t.Fatal(err)
		}
		want("a journal", api.VaultSight{Journal: len(r.journal(0, i+1)), Frames: i + 1, From: 1})
	}
	if err := v.Checkpoint(); err != nil {
		t.Fatal(err)
	}
	want("a checkpoint", api.VaultSight{Checkpoint: len(r.frozen(4)), From: 5})
	for i := 4; i < 8; i++ {
		if err := v.Commit(r.events[i]); err != nil {
			t.Fatal(err)
		}
		want("both", api.VaultSight{Checkpoint: len(r.frozen(4)), Journal: len(r.journal(4, i+1)), Frames: i - 3, From: 5})
	}
	v = opened(t, made(t, 20000), api.Rules{Validity: 1, Uid: 1, Number: 1000})
	want("another first number", api.VaultSight{From: 999})
	if err := v.Checkpoint(); err != nil {
		t.Fatal(err)
	}
	want("a checkpoint of nothing", api.VaultSight{Checkpoint: len(frozen(v.Store())), From: 999})
	steps := d.Steps()
	for range 5 {
		v.Sight()
	}
	if d.Steps() != steps {
		t.Error("Sight does operations")
	}
}
