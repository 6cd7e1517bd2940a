package vault_test

import (
	"fmt"
	"reflect"
	"slices"
	"strings"
	"testing"

	"postbag/api"
	"postbag/disk"
	"postbag/event"
	"postbag/store"
	"postbag/vault"
)

// The chapter's table of examples.
func TestExamples(t *testing.T) {
	_, err := vault.Open(nil, rules)
	wantFail(t, "Open(nil)", err, down("open"))
	d := made(t, 20000)
	_, err = vault.Open(d, api.Rules{})
	wantFail(t, "zero Rules", err, refused("open", api.ErrNumber))
	v := opened(t, d, rules)
	if d.Steps() != 0 {
		t.Errorf("Steps: %d", d.Steps())
	}
	m := planned(t, v.Store(), makes("a"))
	if err := v.Commit(m); err != nil || d.Steps() != 2 || !slices.Equal(d.Names(), []string{journal}) {
		t.Errorf("Commit: %v, %d, %q", err, d.Steps(), d.Names())
	}
	wantFail(t, "Commit again", v.Commit(m), refused("commit", api.ErrFit))
	if err := v.Commit(api.Event{}); err != nil {
		t.Errorf("a zero event: %v", err)
	}
	if got := v.Since(0); !sameEvents(got, []api.Event{m}) {
		t.Errorf("Since: %+v", got)
	}
	if got, want := v.Sight(), (api.VaultSight{Journal: len(frameOf(m)), Frames: 1, From: 1}); got != want {
		t.Errorf("Sight: %+v, not %+v", got, want)
	}
	if err := v.Checkpoint(); err != nil || d.Steps() != 6 || !slices.Equal(d.Names(), []string{checkpoint, journal}) {
		t.Errorf("Checkpoint: %v, %d, %q", err, d.Steps(), d.Names())
	}
	if got, want := v.Sight(), (api.VaultSight{Checkpoint: len(frozen(v.Store())), From: 2}); got != want {
		t.Errorf("Sight: %+v, not %+v", got, want)
	}
	for i, want := range []struct {
		validity int
		claim    bool
		recent   int
	}{{8, true, 1}, {8, false, 1}, {7, false, 1}, {9, true, 0}} {
		if got := v.Recent(want.validity, want.claim); got != want.recent {
			t.Errorf("Recent %d: %d", i, got)
		}
	}
	d.Plan([]api.Stop{{At: 2}})
	err = v.Commit(planned(t, v.Store(), adds("a", "x")))
	wantFail(t, "a stop", err, api.Fail{Op: "sync", Name: journal, Step: 8, Code: api.ErrDown, Why: api.WhyDown})
	wantFail(t, "dead", v.Commit(m), down("commit"))
	d.Start()
	w := opened(t, d, rules)
	if w.Store().Last() != 2 || w.Recent(8, false) != 1 {
		t.Errorf("opened again: %d, %d", w.Store().Last(), w.Recent(8, false))
	}
}

// P13.1: machines that have stopped come first of all, and nothing is done.
func TestOpenDown(t *testing.T) {
	stoppedDisk := filled(t, 20000, files{part: "x", checkpoint: "y", journal: "z"})
	stoppedDisk.Plan([]api.Stop{{At: 1}})
	stoppedDisk.Read(journal)
	was, steps := on(stoppedDisk), stoppedDisk.Steps()
	for what, d := range map[string]*disk.Disk{"nil": nil, "zero": new(disk.Disk), "stopped": stoppedDisk} {
		for _, r := range []api.Rules{rules, {}} {
			v, err := vault.Open(d, r)
			if v != nil {
				t.Errorf("%s: a vault", what)
			}
			wantFail(t, what, err, down("open"))
		}
	}
	wantFiles(t, "stopped", stoppedDisk, was)
	if stoppedDisk.Steps() != steps {
		t.Errorf("operations on a stopped machine")
	}
}

// P13.1: the numbers of the rules at their ends, which are asked with a checkpoint, too; what is refused leaves all as it was.
func TestOpenRules(t *testing.T) {
	full := rowOf(t, rules, allKinds()...)
	numbers := []int{least, -1, 0, 1, 2, 3, 1 << 31, end - 1, end, end + 1, most}
	for _, has := range []files{{}, {part: "x"}, {part: "", checkpoint: full.frozen(5), journal: full.journal(3, 7)}} {
		for _, n := range numbers {
			for at, r := range []api.Rules{{Validity: n, Uid: 1, Number: 2}, {Validity: 7, Uid: n, Number: 2}, {Validity: 7, Uid: 1, Number: n}} {
				d := filled(t, 20000, has)
				steps := d.Steps()
				v, err := vault.Open(d, r)
				if least := []int{1, 1, 2}[at]; n < least || n > end {
					wantFail(t, fmt.Sprint(r), err, refused("open", api.ErrNumber))
					wantFiles(t, fmt.Sprint(r), d, has)
					if v != nil || d.Steps() != steps {
						t.Errorf("%v: %v, %d operations", r, v, d.Steps()-steps)
					}
					continue
				}
				if err != nil {
					t.Errorf("%v: %v", r, err)
					continue
				}
				want := full.stores[7]
				if _, is := has[checkpoint]; !is {
					want = begun(t, r)
				}
				wantStore(t, fmt.Sprint(r), v, want)
			}
		}
	}
}

// P13.1, T15: nothing else of the rules is asked.
func TestOpenOtherRules(t *testing.T) {
	for _, r := range []api.Rules{
		{User: strings.Repeat("u", 20000), Pass: "\x00"}, {Quota: least}, {Quota: most}, {Every: least}, {Every: -1}, {Every: most}, {Now: api.Moment{Month: 99}},
	} {
		r.Validity, r.Uid, r.Number = 7, 1, 2
		v := opened(t, made(t, 20000), r)
		committed(t, v, makes("a"), adds("a", "x"))
		if s := v.Sight(); s.Frames != 2 || s.From != 1 {
			t.Errorf("%v: %+v", r, s)
		}
	}
}

// openCase is files that a vault leaves: what they hold, which operations an opening does, and what is there behind it.
type openCase struct {
	what       string
	has        files
	operations []string
	store      *store.Store
	from       int
	journal    string // behind the opening; "-": no such file
}

func openCases(t *testing.T) []openCase {
	t.Helper()
	r := rowOf(t, rules, allKinds()...)
	n := len(r.events)
	torn := r.journal(6, 7)[:20]
	const (
		removes   = "remove " + part
		readsC    = "read " + checkpoint
		readsJ    = "read " + journal
		truncates = "truncate " + journal
		syncs     = "sync " + journal
	)
	cases := []openCase{
		{"nothing", files{}, nil, r.stores[0], 1, "-"},
		{"an empty journal", files{journal: ""}, []string{readsJ}, r.stores[0], 1, ""},
		{"one frame", files{journal: r.journal(0, 1)}, []string{readsJ, syncs}, r.stores[1], 1, r.journal(0, 1)},
		{"all frames", files{journal: r.journal(0, n)}, []string{readsJ, syncs}, r.stores[n], 1, r.journal(0, n)},
		{"a torn end", files{journal: r.journal(0, 6) + torn}, []string{readsJ, truncates, syncs}, r.stores[6], 1, r.journal(0, 6)},
		{"one byte more", files{journal: r.journal(0, 6) + "\x00"}, []string{readsJ, truncates, syncs}, r.stores[6], 1, r.journal(0, 6)},
		{"a frame that does not go on", files{journal: r.journal(0, 6) + r.journal(7, 9)}, []string{readsJ, truncates, syncs}, r.stores[6], 1, r.journal(0, 6)},
		{"a torn frame alone", files{journal: r.journal(0, 1)[:20]}, []string{readsJ, truncates}, r.stores[0], 1, ""},
		{"one byte alone", files{journal: "x"}, []string{readsJ, truncates}, r.stores[0], 1, ""},
		{"a frame of number 1", files{journal: framed(api.FrameStore, 1, "anything")}, []string{readsJ, truncates}, r.stores[0], 1, ""},
		{"number 1, and on", files{journal: framed(api.FrameStore, 1, "") + r.journal(0, 2)}, []string{readsJ, syncs}, r.stores[2], 1, framed(api.FrameStore, 1, "") + r.journal(0, 2)},
		{"a checkpoint of nothing", files{checkpoint: r.frozen(0)}, []string{readsC}, r.stores[0], 1, "-"},
		{"a checkpoint", files{checkpoint: r.frozen(5)}, []string{readsC}, r.stores[5], 6, "-"},
		{"a checkpoint, an empty journal", files{checkpoint: r.frozen(5), journal: ""}, []string{readsC, readsJ}, r.stores[5], 6, ""},
		{"frames behind it", files{checkpoint: r.frozen(5), journal: r.journal(5, 9)}, []string{readsC, readsJ, syncs}, r.stores[9], 6, r.journal(5, 9)},
		{"frames ahead of it and behind it", files{checkpoint: r.frozen(5), journal: r.journal(2, 9)}, []string{readsC, readsJ, syncs}, r.stores[9], 6, r.journal(2, 9)},
		{"all frames, one above it", files{checkpoint: r.frozen(5), journal: r.journal(0, 6)}, []string{readsC, readsJ, syncs}, r.stores[6], 6, r.journal(0, 6)},
		{"frames up to it", files{checkpoint: r.frozen(5), journal: r.journal(2, 5)}, []string{readsC, readsJ, truncates}, r.stores[5], 6, ""},
		{"frames below it", files{checkpoint: r.frozen(5), journal: r.journal(0, 2)}, []string{readsC, readsJ, truncates}, r.stores[5], 6, ""},
		{"frames up to it, torn", files{checkpoint: r.frozen(5), journal: r.journal(2, 5) + r.journal(5, 6)[:20]}, []string{readsC, readsJ, truncates}, r.stores[5], 6, ""},
		{"a torn frame behind it", files{checkpoint: r.frozen(6), journal: torn}, []string{readsC, readsJ, truncates}, r.stores[6], 7, ""},
		{"a torn end behind it", files{checkpoint: r.frozen(5), journal: r.journal(4, 6) + torn}, []string{readsC, readsJ, truncates, syncs}, r.stores[6], 6, r.journal(4, 6)},
	}
	for i, c := range cases {
		for _, text := range []string{"", "x", r.frozen(n)} {
			with := openCase{c.what + ", and one that was being written", c.has.but(part), append([]string{removes}, c.operations...), c.store, c.from, c.journal}
			with.has[part] = text
			cases = append(cases, with)
			if i%3 > 0 {
				break
			}
		}
	}
	return cases
}

// P13.1: which operations an opening does, and what is there behind it; P13.10: all bytes are durable behind it, and opening again changes nothing.
func TestOpen(t *testing.T) {
	for _, c := range openCases(t) {
		wantOperations(t, c.what, func() (*disk.Disk, func() error) {
			d := filled(t, 20000, c.has)
			return d, func() error { _, err := vault.Open(d, rules); return err }
		}, c.operations...)
		behind := c.has.but(part).but(journal)
		if c.journal != "-" {
			behind[journal] = c.journal
		}
		d := made(t, 20000)
		for name, text := range c.has {
			d.Append(name, text)
		}
		d.Sync(checkpoint)
		for range 3 {
			v := opened(t, d, rules)
			wantStore(t, c.what, v, c.store)
			wantFiles(t, c.what, d, behind)
			frames, _ := slowFrames(behind[journal])
			if got, want := v.Sight(), (api.VaultSight{Journal: len(behind[journal]), Checkpoint: len(behind[checkpoint]), Frames: len(frames), From: c.from}); got != want {
				t.Errorf("%s: Sight %+v, not %+v", c.what, got, want)
			}
			if got := v.Since(0); len(got) != 0 {
				t.Errorf("%s: Since %+v", c.what, got)
			}
			d.Plan([]api.Stop{{At: 1}})
			d.Read(part)
			d.Start()
			wantFiles(t, c.what+": durable", d, behind)
		}
	}
}

// P13.1: a stop within each operation ends the opening; behind it all is as if it had not been.
func TestOpenStops(t *testing.T) {
	for _, c := range openCases(t) {
		for at := range c.operations {
			for _, part := range []int{0, 1} {
				for _, loose := range []bool{false, true} {
					d := filled(t, 20000, c.has)
					if loose { // bytes that are not durable, and survive
						d = made(t, 20000)
						for name, text := range c.has {
							d.Append(name, text)
						}
					}
					steps := d.Steps()
					d.Plan([]api.Stop{{At: at + 1, Part: part, Rest: most}})
					v, err := vault.Open(d, rules)
					words := strings.Fields(c.operations[at])
					wantFail(t, c.what, err, api.Fail{Op: words[0], Name: words[1], Step: steps + at + 1, Code: api.ErrDown, Why: api.WhyDown})
					if v != nil {
						t.Errorf("%s: a vault", c.what)
					}
					d.Start()
					wantStore(t, c.what, opened(t, d, rules), c.store)
				}
			}
		}
	}
}

// bodyOf is an event's bytes.
func bodyOf(e api.Event) string {
	body, _ := event.Encode(e)
	return body
}

func numbered(e api.Event, number int) api.Event {
	e.Number = number
	return e
}

// brokenCases are files that no vault leaves, by the file that is broken.
func brokenCases(t *testing.T) map[string]struct {
	has files
	at  string
} {
	t.Helper()
	r := rowOf(t, rules, allKinds()...)
	e := r.events
	other := rowOf(t, rules, subscribes("INBOX"), unsubscribes("INBOX"))
	cp := r.frozen(5)
	type c = struct {
		has files
		at  string
	}
	return map[string]c{
		"an empty checkpoint":                   {files{checkpoint: ""}, checkpoint},
		"a checkpoint of one byte":              {files{checkpoint: "x"}, checkpoint},
		"two frames":                            {files{checkpoint: cp + cp}, checkpoint},
		"two frames that go on":                 {files{checkpoint: cp + r.frozen(6)}, checkpoint},
		"a frame and a byte":                    {files{checkpoint: cp + "\x00"}, checkpoint},
		"a torn one":                            {files{checkpoint: cp[:len(cp)-1]}, checkpoint},
		"a byte ahead of it":                    {files{checkpoint: "\xb7" + cp}, checkpoint},
		"of another kind":                       {files{checkpoint: framed(api.FrameEvent, 6, r.stores[5].Freeze())}, checkpoint},
		"an event in it":                        {files{checkpoint: frameOf(e[0])}, checkpoint},
		"one number too many":                   {files{checkpoint: framed(api.FrameStore, 7, r.stores[5].Freeze())}, checkpoint},
		"one number too few":                    {files{checkpoint: framed(api.FrameStore, 5, r.stores[5].Freeze())}, checkpoint},
		"a frozen store of nothing":             {files{checkpoint: framed(api.FrameStore, 6, "")}, checkpoint},
		"a frozen store and a byte":             {files{checkpoint: framed(api.FrameStore, 6, r.stores[5].Freeze()+"\x00")}, checkpoint},
		"no frozen store":                       {files{checkpoint: framed(api.FrameStore, 6, "hello")}, checkpoint},
		"both, the checkpoint first":            {files{checkpoint: "x", journal: frameOf(e[3])}, checkpoint},
		"a journal that begins too high":        {files{journal: r.journal(1, 3)}, journal},
		"far too high":                          {files{journal: r.journal(9, 10)}, journal},
		"too high above a checkpoint":           {files{checkpoint: cp, journal: r.journal(6, 8)}, journal},
		"too high, of another kind":             {files{checkpoint: cp, journal: framed(api.FrameStore, 8, "")}, journal},
		"too high, an event that would fit":     {files{checkpoint: cp, journal: framed(api.FrameEvent, 8, bodyOf(e[5]))}, journal},
		"too high, and torn":                    {files{checkpoint: cp, journal: r.journal(6, 7) + "x"}, journal},
		"another kind":                          {files{journal: framed(api.FrameStore, 2, bodyOf(e[0]))}, journal},
		"another kind, further on":              {files{journal: r.journal(0, 3) + framed(api.FrameStore, 5, bodyOf(e[3]))}, journal},
		"a checkpoint in it":                    {files{journal: r.journal(0, 4) + cp}, journal},
		"no event":                              {files{journal: framed(api.FrameEvent, 2, "")}, journal},
		"an event and a byte":                   {files{journal: framed(api.FrameEvent, 2, bodyOf(e[0])+"\x00")}, journal},
		"no event, further on":                  {files{journal: r.journal(0, 3) + framed(api.FrameEvent, 5, "x") + r.journal(4, 5)}, journal},
		"a frame with another number":           {files{journal: r.journal(0, 1) + framed(api.FrameEvent, 3, bodyOf(numbered(e[1], 4)))}, journal},
		"an event that was there":               {files{journal: r.journal(0, 1) + framed(api.FrameEvent, 3, bodyOf(e[0]))}, journal},
		"an event that is not taken":            {files{journal: r.journal(0, 1) + frameOf(numbered(e[0], 3))}, journal},
		"an event of another store":             {files{journal: other.journal(0, 1) + r.journal(1, 3)}, journal},
		"a checkpoint of another store":         {files{checkpoint: other.frozen(2), journal: r.journal(2, 4)}, journal},
		"an event that is not taken, and torn":  {files{journal: r.journal(0, 1) + frameOf(numbered(e[0], 3)) + "xyz"}, journal},
		"the last of many":                      {files{checkpoint: cp, journal: r.journal(2, 12) + frameOf(api.Event{Number: 14, Kind: api.EventDrop, Box: 99})}, journal},
		"the first number as one of the rules":  {files{journal: framed(api.FrameEvent, 2, bodyOf(api.Event{Number: 2, Kind: api.EventDrop, Box: 7}))}, journal},
		"a number ahead of that of the rules":   {files{journal: framed(api.FrameEvent, 1, "") + framed(api.FrameEvent, 2, "")}, journal},
		"above a checkpoint, another kind":      {files{checkpoint: cp, journal: framed(api.FrameStore, 7, bodyOf(e[5]))}, journal},
		"above a checkpoint, no event":          {files{checkpoint: cp, journal: r.journal(4, 5) + framed(api.FrameEvent, 7, "x")}, journal},
		"above a checkpoint, not taken":         {files{checkpoint: cp, journal: r.journal(3, 5) + frameOf(numbered(e[0], 7))}, journal},
		"a good checkpoint, a frame two higher": {files{checkpoint: cp, journal: framed(api.FrameEvent, 8, "")}, journal},
	}
}

// P13.1: every way to be broken; nothing has changed but that checkpoint.tmp is gone.
func TestOpenBroken(t *testing.T) {
	for what, c := range brokenCases(t) {
		for _, with := range []bool{false, true} {
			has := c.has.but(part)
			var want []string
			if with {
				has[part] = "half"
				want = append(want, "remove "+part)
			}
			for _, name := range []string{checkpoint, journal} {
				if _, is := has[name]; is {
					want = append(want, "read "+name)
				}
			}
			d := filled(t, 20000, has)
			v, err := vault.Open(d, rules)
			wantFail(t, what, err, broken(c.at))
			wantFiles(t, what, d, has.but(part))
			if v != nil {
				t.Errorf("%s: a vault", what)
			}
			wantOperations(t, what, func() (*disk.Disk, func() error) {
				d := filled(t, 20000, has)
				return d, func() error { _, err := vault.Open(d, rules); return err }
			}, want...)
		}
	}
}

// P13.1: frames at or below From may hold anything.
func TestOpenPassesOver(t *testing.T) {
	r := rowOf(t, rules, allKinds()...)
	bodies := []string{"", "x", bodyOf(r.events[5]), bodyOf(r.events[0]), r.stores[5].Freeze()}
	for i, body := range bodies {
		for _, kind := range []int{api.FrameEvent, api.FrameStore} {
			below := framed(kind, 5, body) + framed(3-kind, 6, bodies[len(bodies)-1-i])
			for _, first := range []string{"", framed(kind, 3, body) + framed(kind, 4, body)} {
				d := filled(t, 20000, files{checkpoint: r.frozen(5), journal: first + below + r.journal(5, 8)})
				v := opened(t, d, rules)
				wantStore(t, "passed over", v, r.stores[8])
				wantFiles(t, "passed over", d, files{checkpoint: r.frozen(5), journal: first + below + r.journal(5, 8)})
				d = filled(t, 20000, files{checkpoint: r.frozen(5), journal: first + below})
				wantStore(t, "passed over", opened(t, d, rules), r.stores[5])
				wantFiles(t, "passed over", d, files{checkpoint: r.frozen(5), journal: ""})
			}
		}
	}
}

// P13.1: a journal that is cut anywhere, or has one byte turned: the whole frames ahead of that.
func TestOpenCut(t *testing.T) {
	r := rowOf(t, rules, makes("a"), adds("a", "hello", `\Seen`), subscribes("a"))
	for _, from := range []int{0, 1} {
		has := files{}
		if from > 0 {
			has[checkpoint] = r.frozen(from)
		}
		whole := r.journal(0, 3)
		for cut := range len(whole) + 1 {
			n := 0
			for n < 3 && len(r.journal(0, n+1)) <= cut {
				n++
			}
			turned := []byte(whole)
			if cut < len(whole) {
				turned[cut] ^= 1 << (cut % 8)
			}
			for _, text := range []string{whole[:cut], string(turned)} {
				has[journal] = text
				d := filled(t, 20000, has)
				wantStore(t, fmt.Sprint("cut at ", cut), opened(t, d, rules), r.stores[max(from, n)])
				left := r.journal(0, n)
				if n <= from {
					left = ""
				}
				if got, _ := d.Peek(journal); got != left {
					t.Errorf("cut at %d: %q is left, not %q", cut, got, left)
				}
			}
		}
	}
}

// P13.1: a checkpoint that is cut anywhere, or has one byte turned, is broken.
func TestOpenCutCheckpoint(t *testing.T) {
	r := rowOf(t, rules, makes("a"), adds("a", "hello", `\Seen`), subscribes("a"))
	whole := r.frozen(3)
	for cut := range len(whole) {
		turned := []byte(whole)
		turned[cut] ^= 1 << (cut % 8)
		for _, text := range []string{whole[:cut], string(turned)} {
			v, err := vault.Open(filled(t, 20000, files{checkpoint: text}), rules)
			wantFail(t, fmt.Sprint("cut at ", cut), err, broken(checkpoint))
			if v != nil {
				t.Error("a vault")
			}
		}
	}
}

// P13.1: files of other names are nothing to it.
func TestOpenOtherFiles(t *testing.T) {
	has := files{"journal.tmp": "x", "checkpoint-1": "y", "j": "", "checkpointtmp": "z"}
	d := filled(t, 20000, has)
	steps := d.Steps()
	v := opened(t, d, rules)
	wantFiles(t, "other files", d, has)
	if d.Steps() != steps || v.Sight() != (api.VaultSight{From: 1}) {
		t.Errorf("%d operations, %+v", d.Steps()-steps, v.Sight())
	}
}

// P13.1: numbers at the end of what there may be.
func TestOpenAtTheEnd(t *testing.T) {
	r := api.Rules{Validity: end, Uid: end, Number: end}
	d := made(t, 20000)
	v := opened(t, d, r)
	committed(t, v, adds("INBOX", "x"))
	if _, code := v.Store().Expunge(end, []int{end}); code != api.ErrEnd {
		t.Errorf("Expunge: %d", code)
	}
	for i := range 3 {
		w := opened(t, d, r)
		wantStore(t, "at the end", w, v.Store())
		if got, want := w.Recent(end, false), api.MaxNumber; got != want {
			t.Errorf("Recent: %d", got)
		}
		wantFail(t, "behind the end", w.Commit(api.Event{Number: end + 1, Kind: api.EventExpunge, Box: end, Uids: []int{end}}), refused("commit", api.ErrFit))
		if i == 1 {
			if err := w.Checkpoint(); err != nil || w.Sight().From != end {
				t.Errorf("Checkpoint: %v, %+v", err, w.Sight())
			}
		}
	}
	if !reflect.DeepEqual(d.Names(), []string{checkpoint, journal}) {
		t.Errorf("%q", d.Names())
	}
}
