package limb_test

import (
	"fmt"
	"iter"
	"math/rand/v2"
	"slices"
	"strings"
	"testing"

	"postbag/api"
	"postbag/limb"
)

// wantBack marks each byte of raw with the piece that it belongs to, and tells where the marks change.
func wantBack(raw string, l api.Limb) []api.Piece {
	var pieces []api.Piece
	if raw == "" {
		return nil
	}
	marks := make([]int, len(raw)+1)
	for i, x := range all(l) {
		for k, p := range []api.Piece{x.Head, x.Body} {
			if p.From == p.To || k == 1 && len(x.Kids) > 0 {
				continue
			}
			if p.To > len(raw) {
				return []api.Piece{{To: len(raw)}}
			}
			for at := p.From; at < p.To; at++ {
				marks[at] = 2*i + k + 1
			}
		}
	}
	marks[len(raw)] = -1
	from := 0
	for at := range raw {
		if marks[at+1] != marks[at] {
			pieces = append(pieces, api.Piece{From: from, To: at + 1})
			from = at + 1
		}
	}
	return pieces
}

// lookAtBack: P6.12, P6.15, W6.
func lookAtBack(t *testing.T, raw string, l api.Limb) {
	t.Helper()
	given := roomy(l)
	before := shown(given)
	want := wantBack(raw, l)
	for range 2 {
		got := limb.Back(raw, given)
		if !slices.Equal(got, want) {
			t.Errorf("Back(%.900q, %s): %v, not %v", raw, outline(l), got, want)
		}
		joined := ""
		for _, p := range got {
			if p.From >= p.To {
				t.Errorf("Back(%.900q, %s): an empty piece: %v", raw, outline(l), got)
				break
			}
			joined += bytesOf(raw, p)
		}
		if joined != raw {
			t.Errorf("Back(%.900q, %s): joined %q", raw, outline(l), joined)
		}
		lookAtRooms(t, "Back", given, got)
		clear(got[:cap(got)])
	}
	if after := shown(given); after != before {
		t.Errorf("Back changed its limb: %s\nwas %s", after, before)
	}
}

// cutUp is a text with a bar between its pieces.
func cutUp(raw string, l api.Limb) string {
	var list []string
	for _, p := range limb.Back(raw, l) {
		list = append(list, bytesOf(raw, p))
	}
	return strings.ReplaceAll(strings.Join(list, "|"), end, "/")
}

// P6.12
func TestBack(t *testing.T) {
	mixed := "Content-Type: multipart/mixed; boundary=b" + end + end
	for _, c := range []struct{ raw, want string }{
		{"", ""},
		{"x", "x"},
		{end, "/"},
		{end + "x", "/|x"},
		{"A: b" + end, "A: b/"},
		{"A: b" + end + end + "x" + end + "y", "A: b//|x/y"},
		{mixed + "none", "Content-Type: multipart~mixed; boundary=b//|none"},
		{mixed + "pre" + end + "--b" + end + end + "one" + end + "--b " + end + "A: b" + end + end + "two" + end + "--b--" + end + "epi" + end, "Content-Type: multipart~mixed; boundary=b//|pre/--b/|/|one|/--b /|A: b//|two|/--b--/epi/"},
		// what stands between others that are neighbours, with empty ones between them
		{mixed + "--b" + end + "--b--" + end, "Content-Type: multipart~mixed; boundary=b//|--b/--b--/"},
		{mixed + "--b" + end + "--b" + end + end + end + "x", "Content-Type: multipart~mixed; boundary=b//|--b/--b/|/|/x"},
		{mixed + "--b" + end + "x" + end + "--b" + end + "--b" + end + "y", "Content-Type: multipart~mixed; boundary=b//|--b/|x|/--b/--b/|y"},
		{mixed + "--b" + end + "--b" + end, "Content-Type: multipart~mixed; boundary=b//|--b/--b/"},
		{message(""), "Content-Type: message~rfc822//"},
		{message("A: b" + end + end + "x"), "Content-Type: message~rfc822//|A: b//|x"},
		{message(end + "x"), "Content-Type: message~rfc822//|/|x"},
		{message(message(end + "x")), "Content-Type: message~rfc822//|Content-Type: message~rfc822//|/|x"},
		{message(mixed + "--b" + end + end + "x"), "Content-Type: message~rfc822//|Content-Type: multipart~mixed; boundary=b//|--b/|/|x"},
	} {
		if got, want := cutUp(c.raw, limb.Parse(c.raw)), c.want; got != strings.ReplaceAll(want, "~", "/") {
			t.Errorf("Back(%q): %s, not %s", c.raw, got, want)
		}
		lookAtBack(t, c.raw, limb.Parse(c.raw))
	}
}

// P6.12: another raw than the one that the limb was read from.
func TestBackOfAnotherText(t *testing.T) {
	raws := []string{"", "x", end + "x", "A: b" + end + end, multi("b", end+"one", message(end+"in"), "", "A: b"), message(""), message(multi("b", ""))}
	for _, raw := range raws {
		for _, other := range raws {
			lookAtBack(t, other, limb.Parse(raw))
		}
		for n := range len(raw) + 20 {
			lookAtBack(t, strings.Repeat("x", n), limb.Parse(raw))
		}
	}
	// One with empty pieces alone lies in every raw, wherever these lie.
	l := api.Limb{Head: api.Piece{From: 7, To: 7}, Body: api.Piece{From: -3, To: -3}}
	if got := limb.Back("xyz", l); !slices.Equal(got, []api.Piece{{To: 3}}) {
		t.Errorf("empty pieces: %v", got)
	}
	// An empty piece outside of raw does not keep the others from being told.
	long := limb.Parse("A: b" + end + end)
	long.Body = api.Piece{From: 50, To: 50}
	if got := limb.Back("A: b"+end+end+"x", long); !slices.Equal(got, []api.Piece{{To: 8}, {From: 8, To: 9}}) {
		t.Errorf("an empty piece outside: %v", got)
	}
	// Pieces that lie upon each other, or in another order, do not lie so.
	for _, l := range []api.Limb{{Head: api.Piece{To: 2}, Body: api.Piece{From: 1, To: 3}}, {Head: api.Piece{From: 2, To: 3}, Body: api.Piece{To: 1}}, {Head: api.Piece{From: -1, To: 1}}, {Body: api.Piece{From: 3, To: 1}}} {
		if got := limb.Back("xyz", l); !slices.Equal(got, []api.Piece{{To: 3}}) {
			t.Errorf("Back of %v, %v: %v", l.Head, l.Body, got)
		}
	}
}

// wantLeaves is all limbs without Kids.
func wantLeaves(l api.Limb) []api.Limb {
	return slices.DeleteFunc(all(l), func(x api.Limb) bool { return len(x.Kids) > 0 })
}

// lookAtLeaves: P6.13, W1, W6.
func lookAtLeaves(t *testing.T, l api.Limb) {
	t.Helper()
	want := wantLeaves(bare(l))
	given := roomy(l)
	before := shown(given)
	leaves := limb.Leaves(given)
	lookAtSeq(t, outline(l), leaves, want)
	if after := shown(given); after != before {
		t.Errorf("Leaves changed its limb: %s\nwas %s", after, before)
	}
	scribble(given)
	lookAtSeq(t, outline(l)+", written over", leaves, want)
	// written over while it goes, and what is handed on too
	given = roomy(l)
	n := 0
	for x := range limb.Leaves(given) {
		if n >= len(want) || !isSame(x, want[n]) {
			t.Errorf("Leaves(%s), written over at %d: %+v", outline(l), n, x)
			return
		}
		scribble(given)
		scribble(x)
		n++
	}
	if n != len(want) {
		t.Errorf("Leaves(%s), written over while it goes: %d of %d", outline(l), n, len(want))
	}
}

// lookAtSeq goes through leaves as far as each place, and holds the memory of each limb against the others.
func lookAtSeq(t *testing.T, name string, leaves iter.Seq[api.Limb], want []api.Limb) {
	t.Helper()
	var answers []any
	for stop := range len(want) + 1 {
		n := 0
		leaves(func(x api.Limb) bool {
			if n > stop || n >= len(want) || !isSame(x, want[n]) {
				t.Errorf("Leaves(%s), stopped at %d: at %d %+v", name, stop, n, x)
			}
			if stop <= 1 || stop == len(want) {
				answers = append(answers, x)
			}
			n++
			return n <= stop
		})
		if n != min(stop+1, len(want)) {
			t.Errorf("Leaves(%s), stopped at %d: %d", name, stop, n)
		}
	}
	lookAtRooms(t, "Leaves", answers...)
	for _, x := range answers {
		scribble(x.(api.Limb))
	}
	if got := slices.Collect(leaves); !slices.EqualFunc(got, want, isSame) {
		t.Errorf("Leaves(%s), with the answers written over: %+v", name, got)
	}
}

// P6.13
func TestLeaves(t *testing.T) {
	for _, c := range []struct{ raw, want string }{
		{"", `""`},
		{"x", `""`},
		{multi("b", end+"x"), `"1"`},
		{multi("b", end+"x", multi("c", end, end), message(end), end), `"1" "2.1" "2.2" "3" "4"`},
		{message(end), `"1"`},
		{message(message(end)), `"1.1"`},
		{message(multi("b", end, message(multi("c", end, end)))), `"1.1" "1.2.1" "1.2.2"`},
		{multi("b", "Content-Type: multipart/mixed"+end, end), `"1" "2"`},
		{"Content-Type: multipart/mixed; boundary=b" + end, `""`},
	} {
		l := limb.Parse(c.raw)
		var got []string
		for x := range limb.Leaves(l) {
			got = append(got, fmt.Sprintf("%q", x.Place))
		}
		if strings.Join(got, " ") != c.want {
			t.Errorf("Leaves(%s): %s, not %s", outline(l), got, c.want)
		}
		lookAtLeaves(t, l)
	}
}

// P6.13: one inside of itself, and inside of another one.
func TestLeavesInsideOfLeaves(t *testing.T) {
	a := limb.Leaves(limb.Parse(multi("b", end+"x", multi("c", end, end), end)))
	b := limb.Leaves(limb.Parse(message(multi("b", end, end))))
	got := ""
	for x := range a {
		got += " " + x.Place + ":"
		for y := range a {
			if y.Place == "2.2" {
				break
			}
			got += y.Place + ","
		}
		for y := range b {
			got += y.Place + ","
			for z := range b {
				got += z.Place + ","
				break
			}
		}
	}
	const inner = ":1,2.1,1.1,1.1,1.2,1.1,"
	if want := " 1" + inner + " 2.1" + inner + " 2.2" + inner + " 3" + inner; got != want {
		t.Errorf("%s, not %s", got, want)
	}
	next, stop := iter.Pull(a)
	defer stop()
	for x := range a {
		if y, is := next(); !is || !isSame(x, y) {
			t.Errorf("side by side: %+v, %+v", x, y)
		}
	}
	if y, is := next(); is {
		t.Errorf("behind the last one: %+v", y)
	}
}

// P6.13, W2: several at a time.
func TestLeavesAtATime(t *testing.T) {
	r := rand.New(rand.NewPCG(6, 7))
	l := limb.Parse(someMultipart(r, 4))
	leaves := limb.Leaves(l)
	want := wantLeaves(l)
	done := make(chan bool)
	for range 4 {
		go func() {
			is := true
			for range 50 {
				is = is && slices.EqualFunc(slices.Collect(leaves), want, isSame)
			}
			done <- is
		}()
	}
	for range 4 {
		if !<-done {
			t.Error("not the same")
		}
	}
}
