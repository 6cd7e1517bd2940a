package disk_test

import (
	"fmt"
	"slices"
	"testing"

	"postbag/api"
	"postbag/disk"
)

// stopsAt does Reads, with a Start behind each stop, and tells as which of them the machine stopped.
func stopsAt(d *disk.Disk, reads int) []int {
	var at []int
	for i := range reads {
		d.Read("a")
		if d.Down() {
			at = append(at, i+1)
			d.Start()
		}
	}
	return at
}

func at(places ...int) []api.Stop {
	var stops []api.Stop
	for _, n := range places {
		stops = append(stops, api.Stop{At: n, Part: 1, Rest: 1})
	}
	return stops
}

// P9.9: at which operations the machine stops.
func TestPlan(t *testing.T) {
	for _, c := range []struct {
		plan []api.Stop
		want []int
	}{
		{nil, nil}, {at(), nil}, {at(0), nil}, {at(-1), nil}, {at(least, 0, -7), nil}, {at(most), nil}, {at(21), nil},
		{at(1), []int{1}}, {at(2), []int{2}}, {at(20), []int{20}},
		{at(1, 1, 1), []int{1, 2, 3}}, {at(3, 1, 2), []int{3, 4, 6}}, {at(5, 5, 5, 5, 5), []int{5, 10, 15, 20}}, {at(10, 2), []int{10, 12}},
		{at(0, 3), []int{3}}, {at(3, 0), []int{3}}, {at(-5, 3, 0, least, 2, -1), []int{3, 5}}, {at(0, 0, 1, 0, 0, 1), []int{1, 2}},
		{at(2, most, 1), []int{2}}, {at(4, 30, 1), []int{4}},
	} {
		d := made(t, 9)
		d.Plan(c.plan)
		if got := stopsAt(d, 20); !slices.Equal(got, c.want) {
			t.Errorf("P9.9: %+v: stops at %v, want %v", c.plan, got, c.want)
		}
		if d.Steps() != 20 {
			t.Errorf("P9.3: Steps %d", d.Steps())
		}
	}
}

// P9.9: a plan takes the place of what was planned, and its count begins anew.
func TestPlanInThePlaceOfAnother(t *testing.T) {
	for _, c := range []struct {
		first, second []api.Stop
		ahead         int
		want          []int
	}{
		{at(3), nil, 2, nil}, {at(3), at(0), 2, nil}, {at(3), at(3), 2, []int{3}}, {at(3), at(1), 2, []int{1}}, {at(3, 1), at(5), 2, []int{5}},
		{at(2, 1, 1), at(4), 2, []int{4}}, {at(2, 1, 1), nil, 2, nil}, {at(1, 5), at(2, 2), 3, []int{2, 4}}, {at(10), at(10), 9, []int{10}},
	} {
		d := made(t, 9)
		d.Plan(c.first)
		stopsAt(d, c.ahead)
		d.Plan(c.second)
		if got := stopsAt(d, 20); !slices.Equal(got, c.want) {
			t.Errorf("P9.9: %+v: stops at %v", c, got)
		}
	}
}

// P9.9: what counts on the way to a stop: refused operations too, but none on a machine that has stopped, and nothing else.
func TestWhatIsCounted(t *testing.T) {
	d := made(t, 3)
	must(t, d, appends("a", "one"))
	d.Plan(at(7, 3))
	idle := func() {
		d.Size("a")
		d.Peek("a")
		d.Names()
		d.Used()
		d.Quota()
		d.Steps()
		d.Down()
		d.Start()
	}
	idle()
	want(t, d, 2, api.ErrFile, appends("A", ""))
	want(t, d, 3, api.ErrQuota, appends("a", "x"))
	idle()
	want(t, d, 4, api.ErrMissing, removes("b"))
	must(t, d, renames("a", "a"))
	want(t, d, 6, api.ErrNumber, truncates("a", 9))
	must(t, d, syncs("a"))
	idle()
	want(t, d, 8, api.ErrDown, syncs("b"))
	for range 10 {
		want(t, d, 0, api.ErrDown, reads("a"), syncs("b"))
	}
	idle()
	must(t, d, reads("a"))
	idle()
	want(t, d, 10, api.ErrMissing, reads("b"))
	want(t, d, 11, api.ErrDown, reads("a"))
	idle()
	must(t, d, reads("a"), reads("a"), reads("a"), reads("a"))
}

// P9.9: a plan that is made while the machine has stopped.
func TestPlanOfAStoppedOne(t *testing.T) {
	d := made(t, 9)
	d.Plan(at(1, 1, 1))
	want(t, d, 1, api.ErrDown, removes("a"))
	d.Plan(at(0, 3, 2))
	if !d.Down() {
		t.Error("P9.9: Plan starts the machine")
	}
	want(t, d, 0, api.ErrDown, removes("a"), removes("a"), removes("a"))
	d.Start()
	if got := stopsAt(d, 20); !slices.Equal(got, []int{3, 5}) {
		t.Errorf("P9.9: stops at %v", got)
	}
	d.Plan(at(1))
	want(t, d, 22, api.ErrDown, removes("a"))
	d.Plan(nil)
	d.Start()
	if got := stopsAt(d, 20); got != nil {
		t.Errorf("P9.9: stops at %v", got)
	}
}

// P9.9, P9.10: each stop has its own Part and Rest.
func TestEachStopOfItsOwn(t *testing.T) {
	d := made(t, 100)
	d.Plan([]api.Stop{{At: 1, Part: 3, Rest: 2}, {At: 0, Part: 9, Rest: 9}, {At: 1, Part: 1, Rest: 9}, {At: 2, Part: 0, Rest: 9}, {At: 1, Part: 9, Rest: 0}})
	for _, c := range []struct {
		text, left string
	}{{"abc", "a=ab"}, {"def", "a=abd"}, {"ghi", ""}, {"jkl", "a=abdghi"}, {"mno", "a=abdghi"}} {
		err := d.Append("a", c.text)
		if (err == nil) != (c.left == "") || d.Down() != (c.left != "") {
			t.Errorf("P9.9: Append of %q: %v", c.text, err)
		}
		if c.left != "" {
			wantFiles(t, "P9.10: behind "+c.text, d, c.left)
		}
		d.Start()
	}
	must(t, d, appends("a", "x"), appends("a", "x"))
}

// P9.13, W6: stops that are handed in are neither changed nor kept, nor is their spare room.
func TestPlanMemory(t *testing.T) {
	const n = 4
	stops := at(2, 0, 3, 1, 7, 7, 7)[:n]
	was := slices.Clone(stops[:cap(stops)])
	d, e := made(t, 9), made(t, 9)
	d.Plan(stops)
	e.Plan(stops)
	stopsAt(d, 4)
	if !slices.Equal(stops[:cap(stops)], was) {
		t.Errorf("W6: what is handed in is changed: %v, was %v", stops[:cap(stops)], was)
	}
	for i := range stops[:cap(stops)] {
		stops[:cap(stops)][i] = api.Stop{At: 1}
	}
	if got := stopsAt(d, 20); !slices.Equal(got, []int{1, 2}) {
		t.Errorf("P9.13: stops at %v", got)
	}
	if got := stopsAt(e, 20); !slices.Equal(got, []int{2, 5, 6}) {
		t.Errorf("P9.13: stops at %v", got)
	}
}

// stopped is a disk with a stop within an operation, behind others.
func stopped(t *testing.T, ahead []call, c call, part, rest int) *disk.Disk {
	t.Helper()
	d := made(t, 20)
	must(t, d, ahead...)
	d.Plan([]api.Stop{{At: 1, Part: part, Rest: rest}})
	want(t, d, len(ahead)+1, api.ErrDown, c)
	if !d.Down() || d.Steps() != len(ahead)+1 {
		t.Errorf("P9.10: %+v: Down %v, Steps %d", c, d.Down(), d.Steps())
	}
	return d
}

// up is n, or the end of 0 to most that is next to it, by going there.
func up(n, most int) int {
	i := 0
	for i < n && i < most {
		i++
	}
	return i
}

var edges = []int{least, least + 1, -100, -1, 0, 1, 2, 3, 4, 5, 6, 7, 100, most - 1, most}

// P9.10: a stop within an Append.
func TestStopWithinAppend(t *testing.T) {
	ahead := []call{appends("a", "one"), syncs("a"), appends("a", "fold"), appends("b", "xyz")}
	for _, part := range edges {
		for _, rest := range edges {
			for _, data := range []string{"", "S", "STUV"} {
				came := data[:up(part, len(data))]
				tail, made := "fold"+came, came
				d := stopped(t, ahead, appends("a", data), part, rest)
				wantFiles(t, fmt.Sprintf("P9.10: Append of %q, %d, %d", data, part, rest), d, "a=one"+tail[:up(rest, len(tail))]+" b="+"xyz"[:up(rest, 3)])
				d = stopped(t, ahead, appends("c", data), part, rest)
				wantFiles(t, fmt.Sprintf("P9.10: Append of %q, %d, %d", data, part, rest), d, "a=one"+"fold"[:up(rest, 4)]+" b="+"xyz"[:up(rest, 3)]+" c="+made[:up(rest, len(made))])
			}
		}
	}
}

// P9.10: a stop within what is done as a whole or not at all, and within a Read.
func TestStopWithinTheOthers(t *testing.T) {
	ahead := []call{appends("a", "one"), syncs("a"), appends("a", "fold"), appends("b", "xyz"), appends("c", "done"), syncs("c")}
	for _, part := range edges {
		for _, rest := range edges {
			a, b := "one"+"fold"[:up(rest, 4)], "xyz"[:up(rest, 3)]
			for _, c := range []struct {
				call
				done string
			}{
				{syncs("a"), "a=onefold b=" + b + " c=done"}, {syncs("b"), "a=" + a + " b=xyz c=done"}, {syncs("c"), "a=" + a + " b=" + b + " c=done"},
				{reads("a"), "a=" + a + " b=" + b + " c=done"},
				{renames("a", "b"), "b=" + a + " c=done"}, {renames("b", "a"), "a=" + b + " c=done"}, {renames("a", "d"), "b=" + b + " c=done d=" + a}, {renames("c", "a"), "a=done b=" + b}, {renames("a", "a"), "a=" + a + " b=" + b + " c=done"},
				{removes("a"), "b=" + b + " c=done"}, {removes("b"), "a=" + a + " c=done"}, {removes("c"), "a=" + a + " b=" + b},
				{truncates("a", 7), "a=" + a + " b=" + b + " c=done"}, {truncates("a", 4), "a=one" + "f"[:up(rest, 1)] + " b=" + b + " c=done"}, {truncates("a", 2), "a=on b=" + b + " c=done"}, {truncates("b", 0), "a=" + a + " b= c=done"}, {truncates("c", 3), "a=" + a + " b=" + b + " c=don"},
			} {
				text := c.done
				if part < 1 {
					text = "a=" + a + " b=" + b + " c=done"
				}
				wantFiles(t, fmt.Sprintf("P9.10: %+v, %d, %d", c.call, part, rest), stopped(t, ahead, c.call, part, rest), text)
			}
		}
	}
}

// P9.10: a stop within an operation that would be refused does nothing of it, and stops all the same.
func TestStopWithinWhatIsRefused(t *testing.T) {
	ahead := []call{appends("a", "one"), syncs("a"), appends("a", "fold"), appends("b", "xyz")}
	for _, part := range edges {
		for _, rest := range edges {
			for _, c := range []call{
				appends("A", "x"), appends("", ""), appends("a", "0123456789x"), appends("c", "0123456789x"), syncs("c"), syncs("C"), reads("c"), reads("C"), renames("c", "a"), renames("a", "C"), renames("C", "a"), renames("c", "c"),
				removes("c"), removes("C"), truncates("c", 0), truncates("C", 0), truncates("a", 8), truncates("a", -1),
			} {
				wantFiles(t, fmt.Sprintf("P9.10: %+v, %d, %d", c, part, rest), stopped(t, ahead, c, part, rest), "a=one"+"fold"[:up(rest, 4)]+" b="+"xyz"[:up(rest, 3)])
			}
		}
	}
}

// P9.10: all that is left behind a stop is durable.
func TestWhatIsLeftIsDurable(t *testing.T) {
	d := made(t, 100)
	must(t, d, appends("a", "one"), syncs("a"), appends("a", "fold"), appends("b", "xyz"))
	d.Plan([]api.Stop{{At: 1, Part: 2, Rest: 5}, {At: 1}, {At: 2}})
	want(t, d, 5, api.ErrDown, appends("a", "STU"))
	wantFiles(t, "P9.10", d, "a=onefoldS b=xyz")
	d.Start()
	want(t, d, 6, api.ErrDown, reads("a"))
	wantFiles(t, "P9.10: the second stop", d, "a=onefoldS b=xyz")
	d.Start()
	must(t, d, appends("a", "more"))
	want(t, d, 8, api.ErrDown, reads("a"))
	wantFiles(t, "P9.10: the third stop", d, "a=onefoldS b=xyz")
}

// P9.10: what a stop takes gives room again.
func TestRoomBehindAStop(t *testing.T) {
	d := made(t, 10)
	must(t, d, appends("a", "four"), syncs("a"), appends("b", "twofol"))
	d.Plan([]api.Stop{{At: 1, Rest: 1}})
	want(t, d, 4, api.ErrDown, reads("a"))
	d.Start()
	want(t, d, 5, api.ErrQuota, appends("c", "sixsix"))
	must(t, d, appends("c", "five5"))
	wantFiles(t, "P9.10", d, "a=four b=t c=five5")
}

// P9.11: Start of one that runs, and of one that has stopped.
func TestStart(t *testing.T) {
	d := made(t, 10)
	must(t, d, appends("a", "four"), syncs("a"), appends("a", "!"))
	d.Plan(at(3, 2))
	was := shown(t, d)
	d.Start()
	if s := shown(t, d); s != was {
		t.Errorf("P9.11: %s, was %s", s, was)
	}
	must(t, d, reads("a"))
	d.Start()
	must(t, d, reads("a"))
	d.Start()
	want(t, d, 6, api.ErrDown, appends("a", ""))
	d.Start()
	if s := shown(t, d); s != "a=four!; quota 10, steps 6, down false" {
		t.Errorf("P9.11: %s", s)
	}
	must(t, d, appends("a", "?"))
	d.Start()
	d.Start()
	want(t, d, 8, api.ErrDown, reads("a"))
	wantFiles(t, "P9.11", d, "a=four!?")
}

// P9.12: a disk that was never made.
func TestNothing(t *testing.T) {
	var none *disk.Disk
	for _, d := range []*disk.Disk{none, {}, new(disk.Disk)} {
		look := func() {
			t.Helper()
			if s := shown(t, d); s != "; quota 0, steps 0, down true" || d.Used() != 0 || len(d.Names()) != 0 {
				t.Errorf("P9.12: %s", s)
			}
			for _, name := range []string{"", "a", "A"} {
				if text, is := d.Peek(name); d.Size(name) != -1 || text != "" || is {
					t.Errorf("P9.12: %q: Size %d, Peek %q, %v", name, d.Size(name), text, is)
				}
			}
		}
		look()
		for range 3 {
			for _, name := range []string{"", "a", "A"} {
				want(t, d, 0, api.ErrDown, appends(name, ""), appends(name, "x"), syncs(name), reads(name), renames(name, "b"), renames(name, ""), renames(name, name), removes(name), truncates(name, 0), truncates(name, -1))
				look()
			}
			d.Plan(at(1, 0, 2))
			d.Plan(nil)
			d.Plan(at(1))
			look()
			d.Start()
			d.Start()
			look()
		}
	}
}
