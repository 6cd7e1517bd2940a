package disk_test

import (
	"errors"
	"fmt"
	"math/rand/v2"
	"slices"
	"strings"
	"testing"

	"postbag/api"
	"postbag/disk"
)

const (
	least = -1 << 63
	most  = 1<<63 - 1
)

func oneOf[E any](r *rand.Rand, l ...E) E { return l[r.IntN(len(l))] }

// call is an operation; text is the data of an append, the second name of a rename.
type call struct {
	op, name, text string
	n              int
}

func appends(name, data string) call { return call{op: "append", name: name, text: data} }

func syncs(name string) call { return call{op: "sync", name: name} }

func reads(name string) call { return call{op: "read", name: name} }

func renames(from, to string) call { return call{op: "rename", name: from, text: to} }

func removes(name string) call { return call{op: "remove", name: name} }

func truncates(name string, n int) call { return call{op: "truncate", name: name, n: n} }

// on does an operation.
func (c call) on(d *disk.Disk) (string, error) {
	switch c.op {
	case "append":
		return "", d.Append(c.name, c.text)
	case "sync":
		return "", d.Sync(c.name)
	case "read":
		return d.Read(c.name)
	case "rename":
		return "", d.Rename(c.name, c.text)
	case "remove":
		return "", d.Remove(c.name)
	case "truncate":
		return "", d.Truncate(c.name, c.n)
	}
	panic("no operation: " + c.op)
}

// made is a new disk.
func made(t *testing.T, quota int) *disk.Disk {
	t.Helper()
	d, err := disk.New(quota)
	if d == nil || err != nil {
		t.Fatalf("New(%d): %v, %v", quota, d, err)
	}
	return d
}

// must does operations that are not refused.
func must(t *testing.T, d *disk.Disk, calls ...call) {
	t.Helper()
	for _, c := range calls {
		if _, err := c.on(d); err != nil {
			t.Fatalf("%+v: %v", c, err)
		}
	}
}

// want does operations, each of which answers an error with that code, at that name, as the operation with that number.
func want(t *testing.T, d *disk.Disk, step int, code api.Errno, calls ...call) {
	t.Helper()
	for _, c := range calls {
		text, err := c.on(d)
		if text != "" {
			t.Errorf("W3: %+v: %q beside an error", c, text)
		}
		wantFail(t, err, api.Fail{Op: c.op, Name: c.name, Step: step, Code: code, Why: whyOf(code)})
	}
}

// whyOf is the table of P9.1.
func whyOf(code api.Errno) error {
	return map[api.Errno]error{
		api.ErrFile:    api.WhyName,
		api.ErrMissing: api.WhyMissing,
		api.ErrQuota:   api.WhyQuota,
		api.ErrDown:    api.WhyDown,
		api.ErrNumber:  api.WhyRefused,
	}[code]
}

// wantFail holds an error against a Fail, and asks it with errors.Is and errors.As.
func wantFail(t *testing.T, err error, fail api.Fail) {
	t.Helper()
	own, is := err.(*api.Fail)
	if !is || own == nil || *own != fail {
		t.Errorf("P9.1: %+v (%T), want %+v", err, err, fail)
		return
	}
	var found *api.Fail
	if !errors.As(err, &found) || found != own {
		t.Errorf("P9.1: errors.As of %+v: %+v", own, found)
	}
	for _, why := range []error{api.WhyName, api.WhyMissing, api.WhyQuota, api.WhyDown, api.WhyRefused, api.WhyBroken, api.WhyScript} {
		if errors.Is(err, why) != (why == fail.Why) {
			t.Errorf("P9.1: errors.Is(%+v, %v): %v", own, why, why != fail.Why)
		}
	}
}

// files is all files as a text, and what they say of themselves is held against each other.
func files(t *testing.T, d *disk.Disk) string {
	t.Helper()
	var out strings.Builder
	used := 0
	names := d.Names()
	if !slices.IsSorted(names) || len(slices.Compact(slices.Clone(names))) != len(names) {
		t.Errorf("P9.8: Names: %q", names)
	}
	for _, name := range names {
		text, is := d.Peek(name)
		if !is || d.Size(name) != len(text) {
			t.Errorf("P9.8: %q: Peek %q, %v; Size %d", name, text, is, d.Size(name))
		}
		used += len(text)
		fmt.Fprintf(&out, "%s=%s ", name, text)
	}
	if d.Used() != used || used > d.Quota() {
		t.Errorf("P9.8, P9.15: Used %d, of a quota of %d, with %d bytes there", d.Used(), d.Quota(), used)
	}
	return strings.TrimSuffix(out.String(), " ")
}

// shown is all that can be seen of a disk.
func shown(t *testing.T, d *disk.Disk) string {
	t.Helper()
	return fmt.Sprintf("%s; quota %d, steps %d, down %v", files(t, d), d.Quota(), d.Steps(), d.Down())
}

// wantFiles: what is there.
func wantFiles(t *testing.T, what string, d *disk.Disk, text string) {
	t.Helper()
	if got := files(t, d); got != text {
		t.Errorf("%s: %q, want %q", what, got, text)
	}
}

// P9.2: quotas.
func TestNew(t *testing.T) {
	for _, quota := range []int{least, -api.MaxDisk, -1, 0, api.MaxDisk + 1, api.MaxNumber, 1 << 32, most} {
		d, err := disk.New(quota)
		if d != nil {
			t.Errorf("P9.2: New(%d) has a disk", quota)
		}
		wantFail(t, err, api.Fail{Op: "new", Code: api.ErrNumber, Why: api.WhyRefused})
	}
	for _, quota := range []int{1, 2, 1000, api.MaxDisk - 1, api.MaxDisk} {
		d := made(t, quota)
		if s := shown(t, d); s != fmt.Sprintf("; quota %d, steps 0, down false", quota) {
			t.Errorf("P9.2: New(%d): %s", quota, s)
		}
		for range 100 {
			must(t, d, appends("a", ""))
		}
	}
}

// P9.1: every error of every call that can be, and what it tells.
func TestErrors(t *testing.T) {
	d := made(t, 4)
	must(t, d, appends("a", "one"))
	refused := []struct {
		call
		code api.Errno
	}{
		{appends("", "x"), api.ErrFile}, {appends("A", "too long"), api.ErrFile}, {appends("a", "xy"), api.ErrQuota}, {appends("b", "abcde"), api.ErrQuota},
		{syncs(""), api.ErrFile}, {syncs("/"), api.ErrFile}, {syncs("b"), api.ErrMissing},
		{reads(""), api.ErrFile}, {reads("a b"), api.ErrFile}, {reads("b"), api.ErrMissing},
		{renames("", "b"), api.ErrFile}, {renames("a", ""), api.ErrFile}, {renames("b", "B"), api.ErrFile}, {renames("B", "B"), api.ErrFile},
		{renames("b", "a"), api.ErrMissing}, {renames("b", "b"), api.ErrMissing},
		{removes(""), api.ErrFile}, {removes("a\x00"), api.ErrFile}, {removes("b"), api.ErrMissing},
		{truncates("", -1), api.ErrFile}, {truncates("b", -1), api.ErrMissing}, {truncates("a", -1), api.ErrNumber}, {truncates("a", 4), api.ErrNumber},
	}
	for i, c := range refused {
		want(t, d, 2+i, c.code, c.call)
	}
	steps := 1 + len(refused)
	for _, c := range refused {
		d.Plan([]api.Stop{{At: 1, Part: 1, Rest: 9}})
		steps++
		want(t, d, steps, api.ErrDown, c.call)
		want(t, d, 0, api.ErrDown, c.call, c.call)
		d.Start()
	}
	for _, c := range []call{appends("a", "!"), syncs("a"), reads("a"), renames("a", "a"), truncates("a", 3), renames("a", "b"), removes("b")} {
		d.Plan([]api.Stop{{At: 1, Part: 1, Rest: 9}})
		steps++
		want(t, d, steps, api.ErrDown, c)
		want(t, d, 0, api.ErrDown, c, c)
		d.Start()
	}
	wantFiles(t, "P9.10", d, "")
}

// P9.1: of any name that is handed in, the error has just that.
func TestErrorsName(t *testing.T) {
	long := strings.Repeat("ab\r\n", 5000)
	for i, name := range []string{"é", "\xff", "a/b", "a\r\nb", long} {
		d := made(t, 9)
		want(t, d, 1, api.ErrFile, appends(name, ""))
		want(t, d, 2, api.ErrFile, renames(name, "a"))
		want(t, d, 3, api.ErrFile, renames("a", name))
		want(t, d, 4, api.ErrFile, truncates(name, i))
	}
}

// P9.1: two errors that are alike have memory of their own.
func TestErrorsMemory(t *testing.T) {
	stopped := made(t, 3)
	stopped.Plan([]api.Stop{{At: 1}})
	stopped.Read("a")
	running := made(t, 3)
	for what, fails := range map[string]func() error{
		"New":              func() error { _, err := disk.New(0); return err },
		"on a stopped one": func() error { return stopped.Append("a", "b") },
		"of a nil one":     func() error { return (*disk.Disk)(nil).Sync("a") },
		"of a zero one":    func() error { return new(disk.Disk).Remove("a") },
		"refused":          func() error { return running.Truncate("a", 1) },
	} {
		a, b := fails().(*api.Fail), fails().(*api.Fail)
		if a == b {
			t.Errorf("P9.1: %s: one Fail for two errors", what)
		}
		b.Step = a.Step
		if *a != *b {
			t.Errorf("P9.1: %s: %+v, then %+v", what, a, b)
		}
		was := *b
		*a = api.Fail{Op: "x", Name: "y", Step: 7, Code: 7, Why: api.WhyScript}
		if *b != was {
			t.Errorf("P9.1: %s: what is written over one error is seen in another", what)
		}
	}
}

// P9.1, P9.2: no error is a nil error, not a Fail that is nil.
func TestNoErrorIsNil(t *testing.T) {
	d := made(t, 3)
	for _, c := range []call{appends("a", "b"), syncs("a"), reads("a"), renames("a", "b"), truncates("b", 0), removes("b")} {
		if _, err := c.on(d); err != nil {
			t.Errorf("%+v: %v", c, err)
		}
	}
}

// The chapter's table of examples.
func TestExamples(t *testing.T) {
	d := made(t, 10)
	must(t, d, appends("a", "hello"))
	want(t, d, 2, api.ErrFile, appends("A", "x"))
	want(t, d, 3, api.ErrQuota, appends("b", "worldly"))
	must(t, d, syncs("a"), appends("a", "!!"))
	if s := shown(t, d); s != "a=hello!!; quota 10, steps 5, down false" {
		t.Error(s)
	}
	want(t, d, 6, api.ErrMissing, syncs("b"))
	want(t, d, 7, api.ErrMissing, reads("b"))
	want(t, d, 8, api.ErrNumber, truncates("a", 8))
	want(t, d, 9, api.ErrFile, renames("a", ""))
	d.Plan([]api.Stop{{At: 2, Part: 1, Rest: 1}})
	if text, err := d.Read("a"); text != "hello!!" || err != nil {
		t.Errorf("Read: %q, %v", text, err)
	}
	want(t, d, 11, api.ErrDown, appends("a", "xyz"))
	want(t, d, 0, api.ErrDown, reads("a"))
	if s := shown(t, d); s != "a=hello!; quota 10, steps 11, down true" {
		t.Error(s)
	}
	if text, is := d.Peek("q"); text != "" || is {
		t.Errorf("Peek: %q, %v", text, is)
	}
	d.Start()
	if text, err := d.Read("a"); text != "hello!" || err != nil {
		t.Errorf("Read: %q, %v", text, err)
	}
	must(t, d, appends("t", "new"), renames("t", "a"))
	wantFiles(t, "P9.6", d, "a=new")
	d.Plan([]api.Stop{{At: 1}})
	want(t, d, 15, api.ErrDown, syncs("a"))
	d.Start()
	if text, err := d.Read("a"); text != "" || err != nil {
		t.Errorf("Read: %q, %v", text, err)
	}
}
