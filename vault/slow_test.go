package vault_test

import (
	"errors"
	"fmt"
	"reflect"
	"slices"
	"testing"

	"postbag/api"
	"postbag/disk"
	"postbag/event"
	"postbag/frame"
	"postbag/store"
	"postbag/vault"
)

// slow is a vault of another make: it keeps no store, but reads the disk's bytes anew, whatever it is asked.
type slow struct {
	d      *disk.Disk
	rules  api.Rules
	dead   bool
	own    []api.Event
	was    map[int]int // the next uids at the opening, by validities
	claims map[int]int
	held   map[int]int
}

// slowFrames reads frames by writing them anew.
func slowFrames(s string) (out []api.Frame, whole int) {
	number := func(at int) int {
		return int(s[at])<<24 | int(s[at+1])<<16 | int(s[at+2])<<8 | int(s[at+3])
	}
	for len(s)-whole >= over {
		f := api.Frame{Kind: int(s[whole+1]), Number: number(whole + 2), At: whole}
		n := number(whole + 6)
		if n > len(s)-whole-over {
			break
		}
		f.Body = s[whole+14 : whole+14+n]
		text, code := frame.Encode(f.Kind, f.Number, f.Body)
		if code != api.OK || text != s[whole:whole+n+over] || len(out) > 0 && out[len(out)-1].Number+1 != f.Number {
			break
		}
		out, whole = append(out, f), whole+n+over
	}
	return out, whole
}

// state is what the files say: the store, From, and which file is broken; of the journal how many bytes are to be left.
func (m *slow) state() (s *store.Store, from, left int, bad string) {
	s, _ = store.New(m.rules.Validity, m.rules.Uid, m.rules.Number)
	if text, is := m.d.Peek(checkpoint); is {
		frames, whole := slowFrames(text)
		if len(frames) != 1 || whole != len(text) || frames[0].Kind != api.FrameStore {
			return nil, 0, 0, checkpoint
		}
		thawed, code := store.Thaw(frames[0].Body)
		if code != api.OK || thawed.Last() != frames[0].Number {
			return nil, 0, 0, checkpoint
		}
		s = thawed
	}
	from = s.Last()
	text, _ := m.d.Peek(journal)
	frames, whole := slowFrames(text)
	if len(frames) > 0 && frames[0].Number > from+1 {
		return nil, 0, 0, journal
	}
	for _, f := range frames {
		if f.Number <= from {
			continue
		}
		e, code := event.Decode(f.Body)
		if f.Kind != api.FrameEvent || code != api.OK || e.Number != f.Number || s.Apply(e) != api.OK {
			return nil, 0, 0, journal
		}
		left = whole
	}
	return s, from, left, ""
}

// run does operations as far as the disk lets it.
func (m *slow) run(operations ...func() error) error {
	for _, do := range operations {
		if err := do(); err != nil {
			m.dead = true
			return err
		}
	}
	return nil
}

func (m *slow) has(name string) bool { return slices.Contains(m.d.Names(), name) }

func slowOpen(d *disk.Disk, rules api.Rules) (*slow, error) {
	if d.Down() {
		f := down("open")
		return nil, &f
	}
	if _, code := store.New(rules.Validity, rules.Uid, rules.Number); code != api.OK {
		f := refused("open", code)
		return nil, &f
	}
	m := &slow{d: d, rules: rules, was: map[int]int{}, claims: map[int]int{}, held: map[int]int{}}
	var operations []func() error
	if m.has(part) {
		operations = append(operations, func() error { return d.Remove(part) })
	}
	for _, name := range []string{checkpoint, journal} {
		if m.has(name) {
			operations = append(operations, func() error { _, err := d.Read(name); return err })
		}
	}
	if err := m.run(operations...); err != nil {
		return nil, err
	}
	s, _, left, bad := m.state()
	if bad != "" {
		f := broken(bad)
		return nil, &f
	}
	operations = nil
	if d.Size(journal) > left {
		operations = append(operations, func() error { return d.Truncate(journal, left) })
	}
	if left > 0 {
		operations = append(operations, func() error { return d.Sync(journal) })
	}
	if err := m.run(operations...); err != nil {
		return nil, err
	}
	for _, b := range s.Boxes() {
		m.was[b.Validity] = b.Next
	}
	return m, nil
}

func (m *slow) free() int { return m.d.Quota() - m.d.Used() }

// save does the operations of a checkpoint.
func (m *slow) save(text string) error {
	operations := []func() error{
		func() error { return m.d.Append(part, text) },
		func() error { return m.d.Sync(part) },
		func() error { return m.d.Rename(part, checkpoint) },
	}
	if m.has(journal) {
		operations = append(operations, func() error { return m.d.Truncate(journal, 0) })
	}
	return m.run(operations...)
}

func (m *slow) Checkpoint() error {
	if m.dead || m.d.Down() {
		f := down("checkpoint")
		return &f
	}
	s, _, _, _ := m.state()
	text := frozen(s)
	if len(text) > m.free() {
		f := full("checkpoint", part)
		return &f
	}
	return m.save(text)
}

func (m *slow) Commit(e api.Event) error {
	if m.dead || m.d.Down() {
		f := down("commit")
		return &f
	}
	if sameEvent(e, api.Event{}) {
		return nil
	}
	s, from, _, _ := m.state()
	next := s.Twin()
	if code := next.Apply(e); code != api.OK {
		f := refused("commit", code)
		return &f
	}
	text := frameOf(e)
	need := len(text)
	if slices.Contains([]int{api.EventMake, api.EventRename, api.EventInbox, api.EventAdd, api.EventCopy, api.EventMove, api.EventSubscribe}, e.Kind) {
		need += api.Reserve
	}
	if need > m.free() {
		old, _ := m.d.Peek(checkpoint)
		rows, _ := m.d.Peek(journal)
		if c := frozen(s); len(c) <= m.free() && len(c) < len(old+rows) {
			if err := m.save(c); err != nil {
				return err
			}
			from = s.Last()
		}
	}
	if need > m.free() {
		f := full("commit", journal)
		return &f
	}
	err := m.run(func() error { return m.d.Append(journal, text) }, func() error { return m.d.Sync(journal) })
	if err != nil {
		return err
	}
	m.own = append(m.own, clone(e))
	if c := frozen(next); m.rules.Every > 0 && e.Number-from >= m.rules.Every && len(c) <= m.free() {
		return m.save(c)
	}
	return nil
}

func (m *slow) Since(number int) []api.Event {
	var out []api.Event
	for _, e := range m.own {
		if e.Number > number {
			out = append(out, e)
		}
	}
	return out
}

func (m *slow) Sight(from int) api.VaultSight {
	text, _ := m.d.Peek(journal)
	old, _ := m.d.Peek(checkpoint)
	frames, _ := slowFrames(text)
	return api.VaultSight{Journal: len(text), Checkpoint: len(old), Frames: len(frames), From: from}
}

// Recent is handed what is read of the disk.
func (m *slow) Recent(s *store.Store, validity int, claim bool) int {
	for _, b := range s.Boxes() {
		if b.Validity != validity {
			continue
		}
		out := 1
		if next, is := m.was[validity]; is {
			out = next
		}
		if next, is := m.claims[validity]; is {
			out = next
		}
		if claim {
			m.claims[validity] = b.Next
		}
		return out
	}
	return 0
}

// pair is a vault and one of the other make, on disks that are treated alike.
type pair struct {
	t     *testing.T
	v     *vault.Vault
	m     *slow
	d, md *disk.Disk
}

// both is a pair on disks of some files.
func both(t *testing.T, quota int, has files) *pair {
	t.Helper()
	return &pair{t: t, d: filled(t, quota, has), md: filled(t, quota, has)}
}

func (p *pair) plan(stops ...api.Stop) {
	p.d.Plan(stops)
	p.md.Plan(stops)
}

func (p *pair) start() {
	p.d.Start()
	p.md.Start()
}

// agree holds two answers, and what they left on the disks, against each other.
func (p *pair) agree(what string, got, want error) error {
	p.t.Helper()
	if (got == nil) != (want == nil) || got != nil && failOf(got) != failOf(want) {
		p.t.Fatalf("%s: %+v, not %+v", what, failOf(got), failOf(want))
	}
	if a, b := on(p.d), on(p.md); !reflect.DeepEqual(a, b) {
		p.t.Fatalf("%s: the disk has %v, not %v", what, a, b)
	}
	if p.d.Steps() != p.md.Steps() || p.d.Down() != p.md.Down() || p.d.Used() > p.d.Quota() {
		p.t.Fatalf("%s: %d steps, down %v, %d of %d bytes; the other make has %d, %v", what, p.d.Steps(), p.d.Down(), p.d.Used(), p.d.Quota(), p.md.Steps(), p.md.Down())
	}
	return got
}

func (p *pair) open(rules api.Rules) error {
	p.t.Helper()
	v, err := vault.Open(p.d, rules)
	m, other := slowOpen(p.md, rules)
	if (v == nil) != (err != nil) {
		p.t.Fatalf("Open: %v, %v", v, err)
	}
	p.v, p.m = v, m
	p.agree("Open", err, other)
	if err == nil {
		p.alike()
	}
	return err
}

func (p *pair) commit(e api.Event) error {
	p.t.Helper()
	what := fmt.Sprintf("Commit(%.200s)", fmt.Sprintf("%+v", e))
	err := p.agree(what, p.v.Commit(e), p.m.Commit(e))
	if !p.m.dead && !p.d.Down() {
		p.alike()
	}
	return err
}

func (p *pair) checkpoint() error {
	p.t.Helper()
	err := p.agree("Checkpoint", p.v.Checkpoint(), p.m.Checkpoint())
	if !p.m.dead && !p.d.Down() {
		p.alike()
	}
	return err
}

// alike holds all that the two tell against each other.
func (p *pair) alike() {
	p.t.Helper()
	s, from, _, bad := p.m.state()
	if bad != "" {
		p.t.Fatalf("a vault that lives has a broken %s", bad)
	}
	wantStore(p.t, "held against the other make", p.v, s)
	if a, b := p.v.Sight(), p.m.Sight(from); a != b {
		p.t.Fatalf("Sight: %+v, not %+v", a, b)
	}
	for _, number := range []int{least, 0, s.Last() - 3, s.Last() - 1, s.Last(), most} {
		if a, b := p.v.Since(number), p.m.Since(number); !sameEvents(a, b) {
			p.t.Fatalf("Since(%d): %+v, not %+v", number, a, b)
		}
	}
	for validity := p.m.rules.Validity - 1; validity < p.m.rules.Validity+12; validity++ {
		if a, b := p.v.Recent(validity, false), p.m.Recent(s, validity, false); a != b {
			p.t.Fatalf("Recent(%d): %d, not %d", validity, a, b)
		}
		if a, b := p.v.Held(validity), p.m.held[validity]; a != b {
			p.t.Fatalf("Held(%d): %d, not %d", validity, a, b)
		}
	}
}

// stopped tells whether an error says that the machine stopped within an operation.
func stopped(err error) bool { return errors.Is(err, api.WhyDown) && failOf(err).Step > 0 }
