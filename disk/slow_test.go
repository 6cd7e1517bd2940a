package disk_test

import (
	"fmt"
	"math/rand/v2"
	"slices"
	"strings"
	"testing"

	"postbag/api"
	"postbag/disk"
)

// grain is a byte of a file.
type grain struct {
	c       byte
	durable bool
}

// slowFile is a file, byte by byte.
type slowFile struct {
	name   string
	grains []grain
}

// slow is a disk by the document's words: files in a list, each byte with a word of whether it is durable; it is made anew at each operation.
type slow struct {
	quota, steps int
	down         bool
	files        []slowFile // rising by their names
	plan         []api.Stop
	counted      int // since Plan, or Start
}

func (s *slow) setPlan(stops []api.Stop) {
	s.counted = 0
	s.plan = slices.DeleteFunc(slices.Clone(stops), func(stop api.Stop) bool { return stop.At <= 0 })
}

func (s *slow) start() {
	if s.down {
		s.down, s.counted = false, 0
	}
}

func (s *slow) used() int {
	sum := 0
	for _, f := range s.files {
		sum += len(f.grains)
	}
	return sum
}

func (s *slow) bytes(name string) ([]grain, bool) {
	for _, f := range s.files {
		if f.name == name {
			return f.grains, true
		}
	}
	return nil, false
}

// with is the files without one of that name, and with a new one of those bytes.
func (s *slow) with(name string, grains []grain) []slowFile {
	files := append(s.without(name), slowFile{name, grains})
	slices.SortFunc(files, func(a, b slowFile) int { return strings.Compare(a.name, b.name) })
	return files
}

func (s *slow) without(name string) []slowFile {
	return slices.DeleteFunc(slices.Clone(s.files), func(f slowFile) bool { return f.name == name })
}

func slowIsName(name string) bool {
	return len(name) > 0 && len(name) < 33 && strings.Trim(name, "abcdefghijklmnopqrstuvwxyz0123456789.-_") == ""
}

// refusal is what an operation is refused with.
func (s *slow) refusal(c call) api.Errno {
	old, is := s.bytes(c.name)
	switch {
	case !slowIsName(c.name), c.op == "rename" && !slowIsName(c.text):
		return api.ErrFile
	case c.op == "append" && s.used()+len(c.text) > s.quota:
		return api.ErrQuota
	case c.op != "append" && !is:
		return api.ErrMissing
	case c.op == "truncate" && (c.n < 0 || c.n > len(old)):
		return api.ErrNumber
	}
	return api.OK
}

// done is the files behind an operation.
func (s *slow) done(c call) []slowFile {
	old, _ := s.bytes(c.name)
	grains := slices.Clone(old)
	switch c.op {
	case "append":
		for i := range len(c.text) {
			grains = append(grains, grain{c: c.text[i]})
		}
		return s.with(c.name, grains)
	case "sync":
		for i := range grains {
			grains[i].durable = true
		}
		return s.with(c.name, grains)
	case "truncate":
		return s.with(c.name, grains[:c.n])
	case "remove":
		return s.without(c.name)
	case "rename":
		gone := slow{files: s.without(c.name)}
		return gone.with(c.text, grains)
	}
	return s.files
}

// partly is the files behind an operation that got so far.
func (s *slow) partly(c call, part int) []slowFile {
	if c.op == "append" {
		c.text = c.text[:up(part, len(c.text))]
		return s.done(c)
	}
	if part < 1 {
		return s.files
	}
	return s.done(c)
}

// survivors is what is left of files.
func survivors(files []slowFile, rest int) []slowFile {
	var left []slowFile
	for _, f := range files {
		own := slowFile{name: f.name}
		loose := 0
		for _, g := range f.grains {
			if !g.durable {
				loose++
			}
			if g.durable || loose <= rest {
				own.grains = append(own.grains, grain{g.c, true})
			}
		}
		left = append(left, own)
	}
	return left
}

// do does an operation: what it reads, and its error's step and code.
func (s *slow) do(c call) (string, int, api.Errno) {
	if s.down {
		return "", 0, api.ErrDown
	}
	s.steps++
	s.counted++
	code := s.refusal(c)
	if len(s.plan) > 0 && s.plan[0].At == s.counted {
		if code == api.OK {
			s.files = s.partly(c, s.plan[0].Part)
		}
		s.files = survivors(s.files, s.plan[0].Rest)
		s.down, s.plan = true, s.plan[1:]
		return "", s.steps, api.ErrDown
	}
	if code != api.OK {
		return "", s.steps, code
	}
	s.files = s.done(c)
	if c.op == "read" {
		return s.text(c.name), 0, api.OK
	}
	return "", 0, api.OK
}

func (s *slow) text(name string) string {
	grains, _ := s.bytes(name)
	var out strings.Builder
	for _, g := range grains {
		out.WriteByte(g.c)
	}
	return out.String()
}

// shown is what shown tells of a disk.
func (s *slow) shown() string {
	var out []string
	for _, f := range s.files {
		out = append(out, f.name+"="+s.text(f.name))
	}
	return fmt.Sprintf("%s; quota %d, steps %d, down %v", strings.Join(out, " "), s.quota, s.steps, s.down)
}

// someName is mostly a name, of few.
func someName(r *rand.Rand) string {
	return oneOf(r, "a", "a", "a", "b", "b", "c", "journal", strings.Repeat("x", 32), oneOf(r, "", "A", "a b", "a/", strings.Repeat("x", 33), "d", ".", "-_9"))
}

func someData(r *rand.Rand) string {
	data := make([]byte, r.IntN(oneOf(r, 2, 5, 20)))
	for i := range data {
		data[i] = byte('a' + r.IntN(26))
	}
	return string(data)
}

// someCall is an operation; a Truncate is often at the edges of what its file has.
func someCall(r *rand.Rand, d *disk.Disk) call {
	name := someName(r)
	switch r.IntN(9) {
	case 0, 1, 2:
		return appends(name, someData(r))
	case 3, 4:
		return syncs(name)
	case 5:
		return reads(name)
	case 6:
		return renames(name, someName(r))
	case 7:
		return removes(name)
	}
	size := d.Size(name)
	return truncates(name, oneOf(r, r.IntN(10), size, size-1, size+1, -1, 0, max(0, size)/2))
}

func someStops(r *rand.Rand) []api.Stop {
	var stops []api.Stop
	for range r.IntN(4) {
		number := func() int { return oneOf(r, r.IntN(4), r.IntN(12), -1, 0, 1, least, most) }
		stops = append(stops, api.Stop{At: oneOf(r, 1, 1+r.IntN(3), 1+r.IntN(9), 0, -3), Part: number(), Rest: number()})
	}
	return stops
}

// holdAgainst does one step on both disks.
func holdAgainst(t *testing.T, r *rand.Rand, d *disk.Disk, s *slow) string {
	t.Helper()
	switch {
	case r.IntN(8) == 0:
		stops := someStops(r)
		d.Plan(stops)
		s.setPlan(stops)
		return fmt.Sprintf("plan %v", stops)
	case r.IntN(9) == 0, d.Down() && r.IntN(2) == 0:
		d.Start()
		s.start()
		return "start"
	}
	c := someCall(r, d)
	text, err := c.on(d)
	wantText, step, code := s.do(c)
	if text != wantText {
		t.Errorf("%+v: %q, want %q", c, text, wantText)
	}
	if code != api.OK {
		wantFail(t, err, api.Fail{Op: c.op, Name: c.name, Step: step, Code: code, Why: whyOf(code)})
	} else if err != nil {
		t.Errorf("%+v: %v", c, err)
	}
	return fmt.Sprintf("%+v", c)
}

// P9.3 to P9.11, P9.15: scripts of many kinds, on a disk of another make too.
func TestAgainstSlow(t *testing.T) {
	r := rand.New(rand.NewPCG(9, 1))
	for range 6000 {
		quota := oneOf(r, 1, 5, 20, 40, 200)
		d, s := made(t, quota), &slow{quota: quota}
		var script []string
		for range 60 {
			script = append(script, holdAgainst(t, r, d, s))
			if got, want := shown(t, d), s.shown(); got != want {
				t.Errorf("%s, want %s", got, want)
			}
			if t.Failed() {
				t.Fatal(strings.Join(script, "\n"))
			}
		}
	}
}

// replayed is a new disk behind operations.
func replayed(t *testing.T, quota int, script []call) *disk.Disk {
	t.Helper()
	d := made(t, quota)
	for _, c := range script {
		c.on(d)
	}
	return d
}

// peeks is the bytes of each file.
func peeks(d *disk.Disk) map[string]string {
	all := map[string]string{}
	for _, name := range d.Names() {
		all[name], _ = d.Peek(name)
	}
	return all
}

// someScript is operations without a stop.
func someScript(t *testing.T, r *rand.Rand, quota, n int) []call {
	t.Helper()
	var script []call
	d := made(t, quota)
	for range n {
		c := someCall(r, d)
		c.on(d)
		script = append(script, c)
	}
	return script
}

// P9.14: behind a stop each file whose name the operation does not touch has its durable bytes and a beginning of the others.
func TestUntouchedFiles(t *testing.T) {
	r := rand.New(rand.NewPCG(9, 2))
	for range 6000 {
		quota := oneOf(r, 20, 40, 200)
		script := someScript(t, r, quota, 1+r.IntN(25))
		whole := replayed(t, quota, script)
		last := someCall(r, whole)
		sure := replayed(t, quota, script)
		durable(t, sure)
		d := replayed(t, quota, script)
		stop := api.Stop{At: 1, Part: oneOf(r, 0, 1, 3, most), Rest: oneOf(r, -1, 0, 1, 2, 5, most)}
		d.Plan([]api.Stop{stop})
		want(t, d, len(script)+1, api.ErrDown, last)
		all, first, left := peeks(whole), peeks(sure), peeks(d)
		if len(first) != len(all) {
			t.Fatalf("P9.14: names are lost: %q of %q", first, all)
		}
		for name := range all {
			if name == last.name || last.op == "rename" && name == last.text {
				continue
			}
			rest := max(0, min(stop.Rest, len(all[name])-len(first[name])))
			if text, is := left[name]; !is || !strings.HasPrefix(all[name], text) || !strings.HasPrefix(text, first[name]) || len(text) != len(first[name])+rest {
				t.Fatalf("P9.14: %+v behind %+v: %s: %q, %v; durable %q of %q", stop, script, name, text, is, first[name], all[name])
			}
		}
		for name := range left {
			if _, was := all[name]; !was && name != last.name && !(last.op == "rename" && name == last.text) {
				t.Fatalf("P9.14: %+v: %s has come", last, name)
			}
		}
	}
}

// P9.14: what was synced ahead of a Rename is there behind any stop, under the one name or the other.
func TestSyncAndRename(t *testing.T) {
	script := []call{appends("to", "old"), syncs("to"), appends("new", "whole"), syncs("new"), appends("new", "more"), renames("new", "to"), appends("to", "!"), appends("other", "x"), syncs("other")}
	for stopAt := 1; stopAt <= len(script); stopAt++ {
		for _, part := range []int{-1, 0, 1, 2, most} {
			for _, rest := range []int{-1, 0, 1, 2, 4, most} {
				d := made(t, 100)
				d.Plan([]api.Stop{{At: stopAt, Part: part, Rest: rest}})
				synced := false
				for i, c := range script {
					_, err := c.on(d)
					synced = synced || i == 3 && err == nil
				}
				from, _ := d.Peek("new")
				to, is := d.Peek("to")
				if synced && !strings.HasPrefix(from, "whole") && !strings.HasPrefix(to, "whole") {
					t.Errorf("P9.14: a stop at %d, %d, %d: %q, %q", stopAt, part, rest, from, to)
				}
				if stopAt > 2 && !(is && (strings.HasPrefix(to, "old") || strings.HasPrefix(to, "whole"))) {
					t.Errorf("P9.14: a stop at %d, %d, %d: %q, %v", stopAt, part, rest, to, is)
				}
			}
		}
	}
}

// P9.15: what is refused, and a Read, leave everything but Steps as it was, what is durable too.
func TestWhatLeavesAllAsItWas(t *testing.T) {
	r := rand.New(rand.NewPCG(9, 3))
	for range 6000 {
		quota := oneOf(r, 1, 5, 20, 40)
		script := someScript(t, r, quota, r.IntN(25))
		d, twin := replayed(t, quota, script), replayed(t, quota, script)
		calls := 0
		for range 20 {
			c := someCall(r, twin)
			if (&slow{quota: quota, files: filesOf(twin)}).refusal(c) == api.OK && c.op != "read" {
				continue
			}
			c.on(d)
			calls++
		}
		if files(t, d) != files(t, twin) || d.Steps() != twin.Steps()+calls || d.Down() || d.Quota() != twin.Quota() {
			t.Fatalf("P9.15: %s, want %s", shown(t, d), shown(t, twin))
		}
		if a, b := durable(t, d), durable(t, twin); a != b {
			t.Fatalf("P9.15: durable %s, want %s", a, b)
		}
	}
}

// filesOf is the files of a disk.
func filesOf(d *disk.Disk) []slowFile {
	var all []slowFile
	for _, name := range d.Names() {
		all = append(all, slowFile{name, make([]grain, d.Size(name))})
	}
	return all
}

// P9.15, W1: whatever is handed in, every call ends, and Used is never above the quota.
func TestWildCalls(t *testing.T) {
	r := rand.New(rand.NewPCG(9, 4))
	wild := func() string {
		s := make([]byte, r.IntN(40))
		for i := range s {
			s[i] = byte(r.IntN(256))
		}
		return oneOf(r, string(s), someName(r))
	}
	for range 2000 {
		d := oneOf(r, made(t, 1+r.IntN(60)), made(t, 1+r.IntN(60)), new(disk.Disk), nil)
		for range 40 {
			number := func() int { return oneOf(r, int(r.Uint64()), r.IntN(5), least, most) }
			d.Plan([]api.Stop{{At: number(), Part: number(), Rest: number()}, {At: number(), Part: number(), Rest: number()}})
			c := call{op: oneOf(r, "append", "sync", "read", "rename", "remove", "truncate"), name: wild(), text: wild(), n: number()}
			c.on(d)
			files(t, d)
			if r.IntN(2) == 0 {
				d.Start()
			}
		}
	}
}

// W2: the same script has the same answers, whatever the order of a map.
func TestSameAgain(t *testing.T) {
	for seed := range uint64(200) {
		var first string
		for i := range 5 {
			r := rand.New(rand.NewPCG(10, seed))
			d := made(t, 60)
			var all strings.Builder
			for range 60 {
				if r.IntN(6) == 0 {
					d.Plan(someStops(r))
				}
				if d.Down() {
					d.Start()
				}
				text, err := someCall(r, d).on(d)
				fmt.Fprintf(&all, "%q %v %s\n", text, err, shown(t, d))
			}
			if i > 0 && all.String() != first {
				t.Fatalf("W2: %s\nthen %s", first, all.String())
			}
			first = all.String()
		}
	}
}
