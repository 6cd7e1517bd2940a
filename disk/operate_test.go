package disk_test

import (
	"fmt"
	"runtime"
	"slices"
	"strings"
	"testing"

	"postbag/api"
	"postbag/disk"
)

// durable is what is left of all files, if all that is not durable is lost. (The disk is not to be used behind that.)
func durable(t *testing.T, d *disk.Disk) string {
	t.Helper()
	d.Plan([]api.Stop{{At: 1}})
	if _, err := d.Read("-"); err == nil || !d.Down() {
		t.Errorf("P9.10: no stop: %v", err)
	}
	return files(t, d)
}

// P9.3: all that is done on a machine that runs is counted, refused or not; nothing else is.
func TestSteps(t *testing.T) {
	d := made(t, 5)
	calls := []call{
		appends("a", "one"), appends("A", "x"), appends("a", "two"), syncs("a"), syncs("b"), syncs(""), reads("a"), reads("b"), reads("!"),
		renames("a", "a"), renames("a", "c"), renames("a", "c"), renames("c", ""), truncates("c", 2), truncates("c", 3), truncates("a", 0), truncates("", 0), removes("c"), removes("c"), removes(""),
	}
	for i, c := range calls {
		if d.Steps() != i {
			t.Fatalf("P9.3: Steps %d ahead of the operation %d", d.Steps(), i+1)
		}
		c.on(d)
		d.Size("a")
		d.Peek("a")
		d.Names()
		d.Used()
		d.Quota()
		d.Steps()
		d.Down()
		d.Start()
		d.Plan(nil)
	}
	d.Plan([]api.Stop{{At: 1}})
	want(t, d, len(calls)+1, api.ErrDown, reads("a"))
	for _, c := range calls {
		want(t, d, 0, api.ErrDown, c)
	}
	if d.Steps() != len(calls)+1 {
		t.Errorf("P9.3: operations on a machine that has stopped are counted: %d", d.Steps())
	}
	d.Start()
	if d.Steps() != len(calls)+1 || d.Down() {
		t.Errorf("P9.3: Start: Steps %d, Down %v", d.Steps(), d.Down())
	}
	must(t, d, appends("a", "x"))
	if d.Steps() != len(calls)+2 {
		t.Errorf("P9.3: behind a Start: Steps %d", d.Steps())
	}
}

// P9.3: on a machine that has stopped nothing is done.
func TestStoppedDoesNothing(t *testing.T) {
	d := made(t, 100)
	must(t, d, appends("a", "one"), syncs("a"), appends("b", "two"))
	d.Plan([]api.Stop{{At: 1, Rest: 1}, {At: 1}})
	want(t, d, 4, api.ErrDown, reads("a"))
	was := shown(t, d)
	for range 3 {
		want(t, d, 0, api.ErrDown, appends("a", "x"), appends("c", ""), syncs("b"), reads("a"), renames("a", "b"), removes("a"), truncates("a", 0), appends("", ""), removes("q"))
	}
	if s := shown(t, d); s != was {
		t.Errorf("P9.3: %s, was %s", s, was)
	}
	d.Start()
	want(t, d, 5, api.ErrDown, reads("a"))
}

// P9.4: which bytes a name may have, and how many.
func TestNames(t *testing.T) {
	const may = "abcdefghijklmnopqrstuvwxyz0123456789.-_"
	long := strings.Repeat(may, 2)
	for c := range 256 {
		one := string([]byte{byte(c)})
		for _, name := range []string{one, "a" + one, one + "a", "a" + one + "a", long[:31] + one, one + long[:31]} {
			d := made(t, 9)
			if err := d.Append(name, "x"); (err == nil) != strings.Contains(may, one) || len(d.Names()) == 0 == (err == nil) {
				t.Errorf("P9.4: Append(%q): %v, %q", name, err, d.Names())
			}
		}
	}
	for n := range 70 {
		name := long[:n]
		d := made(t, 9)
		for _, c := range []call{appends(name, "x"), syncs(name), reads(name), truncates(name, 1), renames(name, name), renames(name, "a"), renames("a", name), removes(name)} {
			if _, err := c.on(d); (err == nil) != (n >= 1 && n <= 32) {
				t.Errorf("P9.4: a name of %d bytes: %s: %v", n, c.op, err)
			}
		}
	}
	for _, name := range []string{".", "..", "-", "_", "checkpoint.tmp", "00"} {
		must(t, made(t, 9), appends(name, "x"), syncs(name), removes(name))
	}
	for _, name := range []string{"é", "日本", "a\n", " a", "a ", "\xe9", "a\u212a"} {
		want(t, made(t, 9), 1, api.ErrFile, appends(name, ""))
	}
}

// P9.4: the quota, over all files, at its edges; a name that is none comes first.
func TestAppendQuota(t *testing.T) {
	for _, quota := range []int{1, 2, 7, 100, api.MaxDisk} {
		for _, ahead := range []int{0, 1, quota / 2, quota - 1, quota} {
			left := quota - ahead
			data := strings.Repeat("x", left)
			d := made(t, quota)
			must(t, d, appends("a", strings.Repeat("y", ahead)))
			was := files(t, d)
			want(t, d, 2, api.ErrQuota, appends("a", data+"x"))
			want(t, d, 3, api.ErrQuota, appends("b", data+"x"))
			want(t, d, 4, api.ErrQuota, appends("b", strings.Repeat("x", api.MaxDisk+1)))
			want(t, d, 5, api.ErrFile, appends("B", data+"x"))
			wantFiles(t, "P9.4: refused", d, was)
			must(t, d, appends("b", data))
			if d.Used() != quota || d.Size("b") != left {
				t.Errorf("P9.4: Used %d of %d, %d in the last one", d.Used(), quota, d.Size("b"))
			}
			want(t, d, 7, api.ErrQuota, appends("a", "x"))
			must(t, d, appends("a", ""), appends("c", ""))
			if d.Used() != quota || d.Size("c") != 0 {
				t.Errorf("P9.4: empty data: Used %d of %d, Size %d", d.Used(), quota, d.Size("c"))
			}
		}
	}
}

// P9.4 to P9.7: what gives room again.
func TestRoomAgain(t *testing.T) {
	for _, c := range []struct {
		call
		room int
	}{
		{removes("a"), 4}, {removes("b"), 3}, {removes("c"), 0}, {truncates("a", 4), 0}, {truncates("a", 1), 3}, {truncates("a", 0), 4},
		{renames("a", "b"), 3}, {renames("b", "a"), 4}, {renames("a", "c"), 0}, {renames("c", "a"), 4}, {renames("a", "d"), 0}, {renames("a", "a"), 0}, {syncs("a"), 0}, {reads("a"), 0},
	} {
		d := made(t, 7)
		must(t, d, appends("a", "four"), appends("b", "two"), appends("c", ""), c.call)
		if d.Used() != 7-c.room {
			t.Errorf("%+v: Used %d", c.call, d.Used())
		}
		want(t, d, 5, api.ErrQuota, appends("e", strings.Repeat("x", c.room+1)))
		must(t, d, appends("e", strings.Repeat("x", c.room)))
		files(t, d)
	}
}

// P9.4: data stands behind what is there, whatever bytes it has, and is not durable.
func TestAppend(t *testing.T) {
	var all strings.Builder
	for c := range 256 {
		all.WriteByte(byte(c))
	}
	d := made(t, 1000)
	must(t, d, appends("a", all.String()), appends("b", "x"), appends("a", ""), appends("a", all.String()))
	if text, err := d.Read("a"); text != all.String()+all.String() || err != nil {
		t.Errorf("P9.4: %q, %v", text, err)
	}
	if text, is := d.Peek("a"); text != all.String()+all.String() || !is {
		t.Errorf("P9.8: %q, %v", text, is)
	}
	if left := durable(t, d); left != "a= b=" {
		t.Errorf("P9.4: durable: %q", left)
	}
	d = made(t, 1000)
	must(t, d, appends("a", "one"), syncs("a"), appends("a", "two"), appends("b", ""))
	if left := durable(t, d); left != "a=one b=" {
		t.Errorf("P9.4: durable: %q", left)
	}
}

// P9.5: Sync, Read and Remove, each of its own file alone.
func TestSyncReadRemove(t *testing.T) {
	d := made(t, 100)
	must(t, d, appends("a", "one"), appends("b", "two"), appends("c", ""), syncs("a"), syncs("c"), syncs("a"))
	wantFiles(t, "P9.5: Sync", d, "a=one b=two c=")
	for name, text := range map[string]string{"a": "one", "b": "two", "c": ""} {
		if got, err := d.Read(name); got != text || err != nil {
			t.Errorf("P9.5: Read(%q): %q, %v", name, got, err)
		}
	}
	must(t, d, appends("b", "!"), appends("a", "!"))
	if left := durable(t, d); left != "a=one b= c=" {
		t.Errorf("P9.5: durable: %q", left)
	}
	d = made(t, 100)
	must(t, d, appends("a", "one"), appends("b", "two"), syncs("a"), removes("a"))
	wantFiles(t, "P9.5: Remove", d, "b=two")
	want(t, d, 5, api.ErrMissing, removes("a"))
	want(t, d, 6, api.ErrMissing, syncs("a"))
	want(t, d, 7, api.ErrMissing, reads("a"))
	must(t, d, appends("a", "x"))
	if left := durable(t, d); left != "a= b=" {
		t.Errorf("P9.5: a file that is made again has durable bytes: %q", left)
	}
}

// P9.6: where a file goes, and how many of its bytes are durable there.
func TestRename(t *testing.T) {
	ahead := []call{appends("a", "one"), syncs("a"), appends("a", "more"), appends("b", "twofold"), appends("c", "three"), syncs("c")}
	for _, c := range []struct {
		calls       []call
		files, left string
	}{
		{[]call{renames("a", "a")}, "a=onemore b=twofold c=three", "a=one b= c=three"},
		{[]call{renames("b", "b"), renames("c", "c")}, "a=onemore b=twofold c=three", "a=one b= c=three"},
		{[]call{renames("a", "b")}, "b=onemore c=three", "b=one c=three"},
		{[]call{renames("b", "a")}, "a=twofold c=three", "a= c=three"},
		{[]call{renames("a", "c")}, "b=twofold c=onemore", "b= c=one"},
		{[]call{renames("c", "a")}, "a=three b=twofold", "a=three b="},
		{[]call{renames("b", "d")}, "a=onemore c=three d=twofold", "a=one c=three d="},
		{[]call{renames("a", "d"), appends("a", "new")}, "a=new b=twofold c=three d=onemore", "a= b= c=three d=one"},
		{[]call{renames("a", "d"), appends("d", "new")}, "b=twofold c=three d=onemorenew", "b= c=three d=one"},
		{[]call{renames("a", "d"), renames("b", "a"), renames("d", "b")}, "a=twofold b=onemore c=three", "a= b=one c=three"},
		{[]call{renames("b", "d"), syncs("d")}, "a=onemore c=three d=twofold", "a=one c=three d=twofold"},
		{[]call{renames("a", "b"), renames("b", "c"), renames("c", "a")}, "a=onemore", "a=one"},
	} {
		d := made(t, 100)
		must(t, d, ahead...)
		must(t, d, c.calls...)
		wantFiles(t, fmt.Sprintf("P9.6: %+v", c.calls), d, c.files)
		if left := durable(t, d); left != c.left {
			t.Errorf("P9.6: %+v: durable %q, want %q", c.calls, left, c.left)
		}
	}
	d := made(t, 100)
	must(t, d, ahead...)
	must(t, d, renames("a", "b"))
	want(t, d, 8, api.ErrMissing, renames("a", "b"))
	want(t, d, 9, api.ErrMissing, renames("a", "a"))
	want(t, d, 10, api.ErrFile, renames("a", "A"))
	want(t, d, 11, api.ErrFile, renames("A", "a"))
	want(t, d, 12, api.ErrFile, renames("b", "b/"))
	wantFiles(t, "P9.6: refused", d, "b=onemore c=three")
}

// P9.7: what is left, and what of it is durable.
func TestTruncate(t *testing.T) {
	const text = "onemore"
	for n := -3; n <= len(text)+3; n++ {
		d := made(t, 100)
		must(t, d, appends("a", "one"), syncs("a"), appends("a", "more"), appends("b", "two"))
		if n < 0 || n > len(text) {
			want(t, d, 5, api.ErrNumber, truncates("a", n))
			want(t, d, 6, api.ErrFile, truncates("A", n))
			want(t, d, 7, api.ErrMissing, truncates("c", n))
			wantFiles(t, "P9.7: refused", d, "a=onemore b=two")
			continue
		}
		must(t, d, truncates("a", n))
		wantFiles(t, "P9.7", d, "a="+text[:n]+" b=two")
		want(t, d, 6, api.ErrNumber, truncates("a", n+1))
		must(t, d, appends("a", "!"))
		if left := durable(t, d); left != "a="+text[:min(n, 3)]+" b=" {
			t.Errorf("P9.7: Truncate to %d: durable %q", n, left)
		}
	}
	for _, n := range []int{least, least + 1, -api.MaxNumber, api.MaxNumber, most - 1, most} {
		d := made(t, 9)
		must(t, d, appends("a", "one"))
		want(t, d, 2, api.ErrNumber, truncates("a", n))
		wantFiles(t, "P9.7: refused", d, "a=one")
	}
	d := made(t, 9)
	must(t, d, appends("a", ""), truncates("a", 0))
	want(t, d, 3, api.ErrNumber, truncates("a", 1))
	want(t, d, 4, api.ErrNumber, truncates("a", -1))
}

// P9.7: what is cut off and appended anew is not what it was.
func TestTruncateAndAppend(t *testing.T) {
	d := made(t, 100)
	must(t, d, appends("a", "abcdef"), syncs("a"), truncates("a", 2), appends("a", "xyz"))
	if text, err := d.Read("a"); text != "abxyz" || err != nil {
		t.Errorf("P9.7: %q, %v", text, err)
	}
	if left := durable(t, d); left != "a=ab" {
		t.Errorf("P9.7: durable %q", left)
	}
}

// P9.8: what is told on a machine that runs, and on one that has stopped.
func TestSights(t *testing.T) {
	d := made(t, 30)
	look := func(what string) {
		t.Helper()
		for name, want := range map[string]int{"a": 3, "b": 0, "c": -1, "": -1, "A": -1, "a\x00": -1, strings.Repeat("a", 33): -1} {
			text, is := d.Peek(name)
			if d.Size(name) != want || is != (want >= 0) || len(text) != max(0, want) {
				t.Errorf("P9.8: %s: %q: Size %d, Peek %q, %v", what, name, d.Size(name), text, is)
			}
		}
		if d.Used() != 3 || d.Quota() != 30 || !slices.Equal(d.Names(), []string{"a", "b"}) {
			t.Errorf("P9.8: %s: Used %d, Quota %d, Names %q", what, d.Used(), d.Quota(), d.Names())
		}
	}
	must(t, d, appends("b", ""), appends("a", "one"))
	look("not durable")
	must(t, d, syncs("a"))
	look("durable")
	d.Plan([]api.Stop{{At: 1}})
	want(t, d, 4, api.ErrDown, reads("a"))
	look("stopped")
	if !d.Down() || d.Steps() != 4 {
		t.Errorf("P9.8: Down %v, Steps %d", d.Down(), d.Steps())
	}
	d.Start()
	look("started")
	if d.Down() || d.Steps() != 4 {
		t.Errorf("P9.8: Down %v, Steps %d", d.Down(), d.Steps())
	}
}

// P9.8: names rise, byte by byte, whatever the order in which they came.
func TestNamesRise(t *testing.T) {
	const may = "-.0123456789_abcdefghijklmnopqrstuvwxyz"
	var all []string
	for _, a := range []byte(may) {
		all = append(all, string([]byte{a}))
		for _, b := range []byte(may) {
			all = append(all, string([]byte{a, b}))
		}
	}
	if !slices.IsSorted(all) {
		t.Fatal("the bytes of a name do not rise")
	}
	d := made(t, 1)
	for i := range all {
		must(t, d, appends(all[(i*7919+13)%len(all)], ""))
	}
	if !slices.Equal(d.Names(), all) {
		t.Errorf("P9.8: Names: %q", d.Names())
	}
	for i := range all {
		if i%3 > 0 {
			must(t, d, removes(all[i]))
		}
	}
	if names := d.Names(); len(names) != (len(all)+2)/3 || !slices.IsSorted(names) || names[1] != all[3] {
		t.Errorf("P9.8: Names: %q", names)
	}
}

// P9.13: two disks know nothing of each other.
func TestTwoDisks(t *testing.T) {
	a, b := made(t, 10), made(t, 20)
	must(t, a, appends("x", "one"), syncs("x"))
	must(t, b, appends("x", "other"), appends("y", ""))
	a.Plan([]api.Stop{{At: 2}})
	must(t, b, reads("x"), reads("x"), reads("x"))
	must(t, a, reads("x"))
	b.Plan([]api.Stop{{At: 3, Rest: 2}})
	want(t, a, 4, api.ErrDown, reads("x"))
	if s := shown(t, b); s != "x=other y=; quota 20, steps 5, down false" {
		t.Errorf("P9.13: %s", s)
	}
	must(t, b, removes("y"), reads("x"))
	want(t, b, 8, api.ErrDown, reads("x"))
	b.Start()
	if s := shown(t, a); s != "x=one; quota 10, steps 4, down true" {
		t.Errorf("P9.13: %s", s)
	}
	if s := shown(t, b); s != "x=ot; quota 20, steps 8, down false" {
		t.Errorf("P9.13: %s", s)
	}
}

// P9.13: what Names answered may be written over, its spare room too, and is not written over.
func TestNamesMemory(t *testing.T) {
	d := made(t, 10)
	must(t, d, appends("a", ""), appends("b", ""), appends("c", ""))
	one, two := d.Names(), d.Names()
	for i := range one[:cap(one)] {
		one[:cap(one)][i] = "z"
	}
	if !slices.Equal(two, []string{"a", "b", "c"}) || !slices.Equal(d.Names(), two) {
		t.Errorf("P9.13: %q, then %q", two, d.Names())
	}
	must(t, d, appends("aa", ""), removes("b"))
	if !slices.Equal(two, []string{"a", "b", "c"}) || !slices.Equal(d.Names(), []string{"a", "aa", "c"}) {
		t.Errorf("P9.13: %q, then %q", two, d.Names())
	}
}

// P9.13: texts that were answered stay as they are.
func TestTextsStay(t *testing.T) {
	d := made(t, 100)
	must(t, d, appends("a", "abcdef"))
	read, _ := d.Read("a")
	seen, _ := d.Peek("a")
	must(t, d, truncates("a", 1), appends("a", "xyz"))
	d.Plan([]api.Stop{{At: 1}})
	want(t, d, 5, api.ErrDown, appends("a", "uvw"))
	d.Start()
	must(t, d, appends("a", "stuvwx"))
	if read != "abcdef" || seen != "abcdef" {
		t.Errorf("P9.13: %q, %q", read, seen)
	}
}

// Many appends, many files: none of them makes the others slow.
func TestMany(t *testing.T) {
	d := made(t, api.MaxDisk)
	for range api.MaxDisk {
		if d.Append("a", "x") != nil {
			t.Fatal("P9.4")
		}
	}
	want(t, d, api.MaxDisk+1, api.ErrQuota, appends("a", "x"))
	must(t, d, syncs("a"), truncates("a", 0))
	for i := range 200000 {
		if d.Append("f"+fmt.Sprint(i), "x") != nil {
			t.Fatal("P9.4")
		}
	}
	if d.Used() != 200000 || len(d.Names()) != 200001 {
		t.Errorf("P9.8: Used %d, %d names", d.Used(), len(d.Names()))
	}
}

// What files no longer have stays in memory no more.
func TestMemory(t *testing.T) {
	const count = 100
	data := strings.Repeat("x", api.MaxDisk)
	d := made(t, api.MaxDisk)
	var ahead, behind runtime.MemStats
	runtime.GC()
	runtime.ReadMemStats(&ahead)
	for i := range count {
		name := "f" + fmt.Sprint(i)
		must(t, d, appends(name, data))
		switch i % 3 {
		case 0:
			must(t, d, truncates(name, 0))
		case 1:
			must(t, d, truncates(name, 1), removes("f"+fmt.Sprint(i-1)))
		case 2:
			d.Plan([]api.Stop{{At: 1}})
			want(t, d, d.Steps()+1, api.ErrDown, reads(name))
			d.Start()
		}
		must(t, d, truncates(name, 0))
	}
	runtime.GC()
	runtime.ReadMemStats(&behind)
	if grown := int(behind.HeapAlloc) - int(ahead.HeapAlloc); grown > 10*api.MaxDisk {
		t.Errorf("%d files without a byte have %d bytes of memory", count, grown)
	}
	runtime.KeepAlive(d)
}
