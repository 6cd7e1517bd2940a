package vault_test

import (
	"fmt"
	"math/rand/v2"
	"strings"
	"testing"

	"postbag/api"
	"postbag/store"
)

func someName(r *rand.Rand) string {
	return oneOf(r, "a", "b", "c", "a/b", "a/b/c", "x/y", "inbox", "INBOX", "INBOX", "INBOX/x", "1/2/3/4/5/6", "é")
}

func someUids(r *rand.Rand, s *store.Store, box int) []int {
	var out []int
	mails, _ := s.Mails(box)
	share := 1 + r.IntN(4)
	for _, m := range mails {
		if r.IntN(4) < share {
			out = append(out, m.Uid)
		}
	}
	return out
}

func someFlags(r *rand.Rand) []string {
	var out []string
	for range r.IntN(oneOf(r, 1, 3, 9)) {
		out = append(out, oneOf(r, `\Seen`, `\Answered`, `\Deleted`, `\Draft`, `\Flagged`, "one", "Two", strings.Repeat("k", 24), "junk"))
	}
	return out
}

// someEvent is what a random plan answers, most often an event.
func someEvent(r *rand.Rand, s *store.Store) api.Event {
	boxes := s.Boxes()
	box := boxes[r.IntN(len(boxes))].Validity
	name := oneOf(r, someName(r), boxes[r.IntN(len(boxes))].Name)
	body := strings.Repeat("x", r.IntN(oneOf(r, 1, 20, 200, 600)))
	plans := []wish{
		makes(someName(r)), drops(name), renames(name, someName(r)), adds(name, body, someFlags(r)...), adds(name, body, someFlags(r)...), adds(name, body), turns(box, r.IntN(3)-1, someUids(r, s, box), someFlags(r)...),
		turns(box, r.IntN(3)-1, someUids(r, s, box), someFlags(r)...), expunges(box, someUids(r, s, box)...), copies(box, name, someUids(r, s, box)...), moves(box, name, someUids(r, s, box)...), subscribes(name), unsubscribes(name),
	}
	for range 5 {
		if e, code := oneOf(r, plans...)(s); code == api.OK && e.Kind != 0 {
			return e
		}
	}
	return api.Event{}
}

// wrong is an event that is most often not taken.
func wrong(r *rand.Rand, e api.Event) api.Event {
	switch r.IntN(5) {
	case 0:
		e.Number += oneOf(r, -1, 1, -e.Number, end)
	case 1:
		e.Kind = r.IntN(14) - 1
	case 2:
		e.Box += oneOf(r, -1, 1)
	case 3:
		e.Name += "x"
	case 4:
		e.First++
	}
	return e
}

func someStops(r *rand.Rand) []api.Stop {
	var out []api.Stop
	for range 1 + r.IntN(4) {
		out = append(out, api.Stop{At: r.IntN(9), Part: oneOf(r, least, 0, 1, r.IntN(40), r.IntN(400), most), Rest: oneOf(r, least, 0, 1, r.IntN(40), r.IntN(400), most)})
	}
	return out
}

// script is a script under way: beside the pair what was answered.
type script struct {
	*pair
	r     *rand.Rand
	rules api.Rules
	sure  []api.Event  // the events that must be there
	maybe *api.Event   // one that was under way
	fold  *store.Store // what the sure ones make of a new store
	log   []string
}

func (c *script) note(form string, args ...any) {
	c.log = append(c.log, fmt.Sprintf("%.150s", fmt.Sprintf(form, args...)))
}

// reopen starts and opens until a vault lives, and holds it against what was answered. P13.9: it is never broken.
func (c *script) reopen() {
	c.t.Helper()
	for {
		c.start()
		err := c.open(c.rules)
		c.note("open: %v", err)
		if err == nil {
			break
		}
		if !stopped(err) {
			c.t.Fatalf("Open: %v", err)
		}
	}
	got := c.v.Store().Freeze()
	if c.maybe != nil && got != c.fold.Freeze() {
		c.sure = append(c.sure, *c.maybe)
		c.fold.Apply(*c.maybe)
	}
	c.maybe = nil
	if got != c.fold.Freeze() {
		c.t.Fatalf("P13.9: opened at %d, with %d events sure", c.v.Store().Last(), len(c.sure))
	}
}

// again opens a vault a second time at once. P13.10: nothing changes, and all is durable.
func (c *script) again() {
	c.t.Helper()
	c.plan()
	was, store := on(c.d), c.v.Store().Freeze()
	if err := c.open(c.rules); err != nil {
		c.t.Fatalf("P13.10: %v", err)
	}
	if c.v.Store().Freeze() != store {
		c.t.Fatal("P13.10: another store")
	}
	wantFiles(c.t, "P13.10", c.d, was)
	c.otherStop()
	wantFiles(c.t, "P13.10: durable", c.d, was)
}

// otherStop stops the machine within an operation that is none of the vault's.
func (c *script) otherStop() {
	c.plan(api.Stop{At: 1, Rest: c.r.IntN(2) * 5})
	c.d.Read(journal)
	c.md.Read(journal)
}

func (c *script) commits(e api.Event) {
	c.t.Helper()
	was := c.v.Store().Freeze()
	err := c.commit(e)
	c.note("commit %+v: %v", e, err)
	f := failOf(err)
	switch {
	case err == nil && e.Kind != 0:
		c.sure = append(c.sure, e)
		if code := c.fold.Apply(e); code != api.OK {
			c.t.Fatalf("an event that is not taken was committed: %d", code)
		}
	case stopped(err):
		c.maybe = &e
	case err != nil && f.Code != api.ErrQuota && f.Code != api.ErrFit && f.Code != api.ErrDown:
		c.t.Fatalf("P13.2: %+v", f)
	case err != nil && c.v.Store().Freeze() != was:
		c.t.Fatalf("P13.11: the store changed: %+v", f)
	}
	switch e.Kind {
	case api.EventDrop, api.EventFlags, api.EventExpunge, api.EventUnsubscribe:
		if f.Code == api.ErrQuota && c.d.Used()+len(frameOf(e)) <= c.d.Quota() {
			c.t.Fatalf("P13.11: %d of %d bytes: %+v", c.d.Used(), c.d.Quota(), f)
		}
	}
}

func (c *script) step() {
	c.t.Helper()
	if c.m.dead || c.d.Down() && c.r.IntN(2) == 0 {
		c.reopen()
		if c.r.IntN(3) == 0 {
			c.again()
		}
		return
	}
	validity := c.rules.Validity - 1 + c.r.IntN(12)
	switch n := c.r.IntN(40); {
	case n < 24:
		c.commits(someEvent(c.r, c.v.Store()))
	case n < 26:
		c.commits(wrong(c.r, someEvent(c.r, c.v.Store())))
	case n < 28:
		c.note("checkpoint: %v", c.checkpoint())
	case n < 31:
		stops := someStops(c.r)
		c.note("plan %v", stops)
		c.plan(stops...)
	case n == 31:
		c.note("another stops")
		c.otherStop()
	case n == 32:
		c.note("start")
		c.start()
	case n == 33:
		c.reopen()
	case n < 36:
		c.v.Hold(validity)
		c.m.held[validity]++
	case n == 36:
		c.v.Release(validity)
		c.m.held[validity] = max(0, c.m.held[validity]-1)
	default:
		s, _, _, _ := c.m.state()
		if got, want := c.v.Recent(validity, true), c.m.Recent(s, validity, true); got != want {
			c.t.Fatalf("P13.7: Recent(%d, true): %d, not %d", validity, got, want)
		}
	}
}

// P13.9, P13.10, P13.11, and all the others: random scripts, held against what was answered and against a vault of another make.
func TestScripts(t *testing.T) {
	quotas := []int{1, 30, 100, api.Reserve, api.Reserve + 30, api.Reserve + 100, api.Reserve + 300, api.Reserve + 700, api.Reserve + 1500, api.Reserve + 4000, 20000, api.MaxDisk}
	for seed := range uint64(400) {
		r := rand.New(rand.NewPCG(13, seed))
		rules := api.Rules{Validity: oneOf(r, 1, 7, 200, end-6), Uid: oneOf(r, 1, 1, 127, end-3), Number: oneOf(r, 2, 2, 100, end-30), Every: oneOf(r, 0, 0, 1, 2, 5, 12)}
		quota := quotas[int(seed)%len(quotas)]
		c := &script{pair: both(t, quota, nil), r: r, rules: rules, fold: begun(t, rules)}
		func() {
			defer func() {
				if t.Failed() {
					t.Logf("seed %d, quota %d, %+v:\n%s", seed, quota, rules, strings.Join(c.log[max(0, len(c.log)-12):], "\n"))
				}
			}()
			if err := c.open(rules); err != nil {
				t.Fatal(err)
			}
			for range 70 {
				c.step()
			}
			c.plan()
			c.reopen()
			fresh := begun(t, rules)
			for _, e := range c.sure {
				if code := fresh.Apply(e); code != api.OK {
					t.Fatalf("P13.9: %d", code)
				}
			}
			wantStore(t, "P13.9", c.v, fresh)
		}()
		if t.Failed() {
			return
		}
	}
}

// somePieces are bytes of a journal that may be broken.
func somePieces(r *rand.Rand, row row) string {
	n := len(row.events)
	from := oneOf(r, 0, 0, 0, r.IntN(n))
	to := from + r.IntN(n-from+1)
	var out strings.Builder
	for i, e := range row.events[from:to] {
		switch r.IntN(60) {
		case 0:
			out.WriteString(framed(api.FrameStore, e.Number, bodyOf(e)))
		case 1:
			out.WriteString(framed(api.FrameEvent, e.Number, bodyOf(row.events[r.IntN(n)])))
		case 2:
			out.WriteString(framed(api.FrameEvent, e.Number, "xyz"[:r.IntN(4)]))
		case 3:
			out.WriteString(frameOf(numbered(row.events[r.IntN(n)], e.Number)))
		case 4:
			out.WriteString(row.frozen(from + i + 1))
		default:
			out.WriteString(frameOf(e))
		}
	}
	return torn(r, out.String())
}

// torn is a text that may have lost its end, have more behind it, or one byte turned.
func torn(r *rand.Rand, text string) string {
	switch n := len(text); r.IntN(6) {
	case 0:
		return text[:n-r.IntN(min(n, 30)+1)]
	case 1:
		return text + "\xb7\x01 and something more"[:r.IntN(20)]
	case 2:
		if n > 0 {
			b := []byte(text)
			b[r.IntN(n)]++
			return string(b)
		}
	}
	return text
}

// P13.1, and all the others behind it: random files, most of which no vault leaves, opened by both makes.
func TestRandomFiles(t *testing.T) {
	row := rowOf(t, rules, allKinds()...)
	n := len(row.events)
	whole := 0
	for seed := range uint64(2000) {
		r := rand.New(rand.NewPCG(1301, seed))
		has := files{}
		if r.IntN(2) == 0 {
			has[part] = torn(r, row.frozen(r.IntN(n)))
		}
		if r.IntN(3) > 0 {
			k := r.IntN(n + 1)
			has[checkpoint] = oneOf(r, row.frozen(k), row.frozen(k), row.frozen(k), row.frozen(k), torn(r, row.frozen(k)), framed(api.FrameStore, k+1+r.IntN(2), row.stores[k].Freeze()), row.journal(0, k), row.frozen(k)+row.frozen(min(k+1, n)))
		}
		if r.IntN(4) > 0 {
			has[journal] = somePieces(r, row)
		}
		quota := len(has[part]) + len(has[checkpoint]) + len(has[journal]) + oneOf(r, 1, 100, api.Reserve+50, api.Reserve+500)
		p := both(t, quota, has)
		if r.IntN(3) == 0 {
			p.plan(someStops(r)...)
		}
		numbers := rules
		numbers.Every = r.IntN(5)
		if p.open(numbers) != nil {
			p.start()
			if p.open(numbers) != nil {
				continue
			}
		}
		whole++
		for range 6 {
			if p.m.dead || p.d.Down() {
				break
			}
			if r.IntN(4) == 0 {
				p.checkpoint()
			} else {
				p.commit(someEvent(r, p.v.Store()))
			}
		}
		if t.Failed() {
			t.Fatalf("seed %d: %v", seed, has)
		}
	}
	if whole < 400 || whole > 1700 {
		t.Errorf("%d of 2000 were taken", whole)
	}
}

// P13.11, T10: events that bring nothing may use up the room that the others leave; they are refused just where their frame has no room, behind a checkpoint that makes some.
func TestReserveUsedUp(t *testing.T) {
	var words []string
	for i := range api.MaxKeywords {
		words = append(words, strings.Repeat("k", api.MaxKeyword-1)+string(rune('a'+i)))
	}
	var filling []wish
	for range 50 {
		filling = append(filling, adds("INBOX", "x"))
	}
	first := rowOf(t, rules, filling...)
	taken, refusals, saves := 0, 0, 0
	for seed := range uint64(16) {
		r := rand.New(rand.NewPCG(1311, seed))
		rows := first.journal(0, 50)
		c := &script{pair: both(t, len(rows)+oneOf(r, 3000, api.Reserve, api.Reserve+2000, api.Reserve+9000), files{journal: rows}), r: r, rules: every(oneOf(r, 0, 0, 7)), fold: first.stores[50].Twin()}
		if err := c.open(c.rules); err != nil {
			t.Fatal(err)
		}
		for range 25 {
			plans := []wish{turns(7, 1, someUids(r, c.v.Store(), 7), words...), turns(7, 0, someUids(r, c.v.Store(), 7), words[:r.IntN(9)]...), turns(7, -1, someUids(r, c.v.Store(), 7), words...), subscribes("INBOX"), unsubscribes("INBOX")}
			e, code := oneOf(r, plans...)(c.v.Store())
			if code != api.OK || e.Kind == 0 {
				continue
			}
			used, from := c.d.Used(), c.v.Sight().From
			c.commits(e)
			if c.v.Sight().From != from {
				saves++
			}
			if e.Kind == api.EventSubscribe {
				continue
			}
			if c.v.Store().Last() == e.Number {
				taken++
			} else if refusals++; used+len(frameOf(e)) <= c.d.Quota() {
				t.Fatalf("P13.11: refused, with %d of %d bytes", used, c.d.Quota())
			}
		}
		c.reopen()
	}
	if taken < 100 || refusals < 30 || saves < 20 {
		t.Errorf("%d taken, %d refused, %d checkpoints: the script is too tame", taken, refusals, saves)
	}
}
