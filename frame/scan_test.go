package frame_test

import (
	"iter"
	"math/rand/v2"
	"slices"
	"strings"
	"sync"
	"testing"

	"postbag/api"
	"postbag/frame"
)

// all is what a scan hands on until it ends.
func all(scan iter.Seq2[int, api.Frame]) []told {
	var out []told
	for place, f := range scan {
		out = append(out, told{place, f})
	}
	return out
}

// row is the frames of bodies, encoded one behind the other, from a number on, and what a scan must tell of them. The kinds are mixed.
func row(t *testing.T, number int, bodies ...string) (string, []told) {
	t.Helper()
	s := ""
	var want []told
	for i, body := range bodies {
		f := api.Frame{Kind: 1 + i%2, Number: number + i, At: len(s), Body: body}
		s += made(t, f.Kind, f.Number, body)
		want = append(want, told{len(s), f})
	}
	return s, want
}

// ahead is those of them that lie wholly ahead of a place.
func ahead(list []told, place int) []told {
	n := 0
	for n < len(list) && list[n].place <= place {
		n++
	}
	return list[:n]
}

// look holds a scan against what it must tell.
func look(t *testing.T, why, s string, want []told) {
	t.Helper()
	if got := all(frame.Scan(s)); !slices.Equal(got, want) {
		t.Errorf("%s: Scan(%.120q): %v, not %v", why, s, got, want)
	}
}

// P10.4
func TestScan(t *testing.T) {
	a, b, c := made(t, 1, 5, "ab"), made(t, 1, 6, ""), made(t, 1, 8, "c")
	first := told{20, api.Frame{Kind: 1, Number: 5, Body: "ab"}}
	second := told{38, api.Frame{Kind: 1, Number: 6, At: 20}}
	look(t, "a gap", a+b+c, []told{first, second})
	look(t, "one", a, []told{first})
	look(t, "nothing", "", nil)
	look(t, "the last byte is missing", a[:19], nil)
	look(t, "a byte ahead", "\x00"+a, nil)
	look(t, "a mark ahead", "\xb7"+a, nil)
	look(t, "a byte between", a+"\x00"+b, []told{first})
	look(t, "a line end between", a+"\r\n"+b, []told{first})
	look(t, "a byte behind", a+b+"\xb7", []told{first, second})
}

// P10.4: the first number may be any; each further one is one more.
func TestScanNumbers(t *testing.T) {
	for _, number := range []int{1, 2, 255, 256, 1<<31 - 1, 1 << 31, api.MaxNumber - 4} {
		s, want := row(t, number, "a", "", "ccc", "dd")
		look(t, "a row", s, want)
	}
	s, want := row(t, 100, "a", "b")
	for _, number := range []int{1, 2, 3, 99, 100, 101, 103, 104, 102 + 256, 102 + 65536, 102 + 1<<24, 102 + 1<<31, api.MaxNumber - 1} {
		look(t, "another number behind", s+made(t, 1, number, "c"), want)
		look(t, "another number behind, then the next", s+made(t, 1, number, "c")+made(t, 2, 102, "d"), want)
		look(t, "another number behind, then its next", s+forged(0xb7, 1, number, 1, "c")+forged(0xb7, 2, number+1, 1, "d"), want)
	}
	look(t, "the next number behind", s+made(t, 1, 102, "c"), append(want, told{57, api.Frame{Kind: 1, Number: 102, At: 38, Body: "c"}}))
}

// P10.4: behind the number MaxNumber - 1 there is none.
func TestScanAtTheEndOfNumbers(t *testing.T) {
	s, want := row(t, api.MaxNumber-3, "x", "y", "z")
	look(t, "up to the end", s, want)
	for _, number := range []int{0, 1, 2, api.MaxNumber - 2, api.MaxNumber - 1, api.MaxNumber} {
		look(t, "behind the end", s+forged(0xb7, 1, number, 1, "q"), want)
	}
	s, want = row(t, 1, "x")
	look(t, "0, then 1", forged(0xb7, 1, 0, 0, "")+s, nil)
	look(t, "1, then 0", s+forged(0xb7, 1, 0, 0, ""), want)
}

// P10.4: the kinds may be mixed.
func TestScanKinds(t *testing.T) {
	for mix := range 16 {
		s := ""
		var want []told
		for i := range 4 {
			f := api.Frame{Kind: 1 + mix>>i&1, Number: 7 + i, At: len(s), Body: "body"[:i]}
			s += made(t, f.Kind, f.Number, f.Body)
			want = append(want, told{len(s), f})
		}
		look(t, "kinds", s, want)
	}
}

// P10.4: what is no frame, though its sums are right.
func TestScanForged(t *testing.T) {
	s, want := row(t, 3, "one", "two")
	if forged(0xb7, 1, 5, 3, "six") != made(t, 1, 5, "six") {
		t.Fatalf("what is forged is no frame")
	}
	bad := func(why, f string) {
		t.Helper()
		look(t, why, f, nil)
		look(t, why+", behind others", s+f, want)
	}
	for b := range 256 {
		if b != 183 {
			bad("first byte", forged(byte(b), 1, 5, 3, "six"))
		}
		if b != 1 && b != 2 {
			bad("kind", forged(0xb7, byte(b), 5, 3, "six"))
		}
	}
	bad("number 0", forged(0xb7, 1, 0, 3, "six"))
	bad("number MaxNumber", forged(0xb7, 2, api.MaxNumber, 3, "six"))
	for _, length := range []int{0, 1, 2, 4, 5, 17, 18, 3 + 256, 3 + 65536, 3 + 1<<24, api.MaxFrame, api.MaxFrame + 1, 1 << 31, api.MaxNumber - 3, api.MaxNumber} {
		bad("another length", forged(0xb7, 1, 5, length, "six"))
		bad("another length, with bytes behind", forged(0xb7, 1, 5, length, "six")+strings.Repeat("six", 100))
	}
	head := "\xb7\x01" + four(5) + four(3)
	right, wrong := four(slowSum(head)), four(slowSum(head)^1)
	bad("first sum", head+wrong+"six"+four(slowSum(head+wrong+"six")))
	bad("second sum", head+right+"six"+four(slowSum(head+right+"six")^1<<31))
	bad("second sum of the body alone", head+right+"six"+four(slowSum("six")))
	bad("second sum without the first one", head+right+"six"+four(slowSum(head+"six")))
	bad("first sum not turned in the end", head+four(slowSum(head)^api.MaxNumber)+"six"+four(slowSum(head+four(slowSum(head)^api.MaxNumber)+"six")))
	bad("no sums", head+"\x00\x00\x00\x00six\x00\x00\x00\x00")
}

// P10.4: the longest body there may be, and one byte more.
func TestScanLong(t *testing.T) {
	r := rand.New(rand.NewPCG(10, 4))
	body := someBytes(r, api.MaxFrame+1)
	s, want := row(t, 8, "x", body[1:], "y")
	look(t, "the longest", s, want)
	look(t, "the longest, cut", s[:want[1].place-1], want[:1])
	over := forged(0xb7, 1, 8, len(body), body)
	look(t, "too long", over, nil)
	look(t, "too long, with more behind", over+s, nil)
	s, want = row(t, 7, "x")
	look(t, "too long, behind another", s+over, want)
}

// P10.4: many frames in a row.
func TestScanMany(t *testing.T) {
	const n = 50000
	var b strings.Builder
	for i := range n {
		b.WriteString(made(t, 1+i%2, 1000+i, "frame"[:i%6]))
	}
	i, at := 0, 0
	for place, f := range frame.Scan(b.String()) {
		if want := (api.Frame{Kind: 1 + i%2, Number: 1000 + i, At: at, Body: "frame"[:i%6]}); f != want || place != at+18+i%6 {
			t.Fatalf("frame %d: %d, %v", i, place, f)
		}
		i, at = i+1, place
	}
	if i != n || at != b.Len() {
		t.Errorf("%d frames up to %d", i, at)
	}
}

// P10.4, W1: as soon as it is told to stop it ends, and it begins again each time.
func TestScanStops(t *testing.T) {
	s, want := row(t, 20, "a", "bb", "", "dddd", "e")
	scan := frame.Scan(s)
	for stop := range len(want) + 2 {
		for range 2 {
			var got []told
			scan(func(place int, f api.Frame) bool {
				got = append(got, told{place, f})
				return len(got) < stop
			})
			if n := min(max(stop, 1), len(want)); !slices.Equal(got, want[:n]) {
				t.Errorf("told to stop at %d: %v", stop, got)
			}
		}
		if got := all(scan); !slices.Equal(got, want) {
			t.Errorf("again, behind a stop at %d: %v", stop, got)
		}
	}
}

// P10.4: the same scan within itself, within another, and two of them gone through in turns.
func TestScanWithin(t *testing.T) {
	s, want := row(t, 20, "a", "bb", "", "dddd")
	other, wantOther := row(t, 21, "", "z")
	scan, scanOther := frame.Scan(s), frame.Scan(other)
	var outer []told
	for place, f := range scan {
		outer = append(outer, told{place, f})
		if got := all(scan); !slices.Equal(got, want) {
			t.Errorf("within itself, at %d: %v", place, got)
		}
		if got := all(scanOther); !slices.Equal(got, wantOther) {
			t.Errorf("within another, at %d: %v", place, got)
		}
		for range scan {
			break
		}
	}
	if !slices.Equal(outer, want) {
		t.Errorf("around others: %v", outer)
	}
	one, endOne := iter.Pull2(scan)
	defer endOne()
	two, endTwo := iter.Pull2(scan)
	defer endTwo()
	one()
	for i := range want {
		placeTwo, fTwo, _ := two()
		placeOne, fOne, is := one()
		if got := (told{placeTwo, fTwo}); got != want[i] {
			t.Errorf("in turns: %v, not %v", got, want[i])
		}
		if is != (i+1 < len(want)) || is && (told{placeOne, fOne}) != want[i+1] {
			t.Errorf("in turns, one further: %d, %v, %v", placeOne, fOne, is)
		}
	}
}

// W2: a scan tells the same wherever it runs.
func TestScanAtOnce(t *testing.T) {
	s, want := row(t, 20, "a", "bb", "", "dddd")
	scan := frame.Scan(s)
	got := make([][]told, 8)
	var ends sync.WaitGroup
	for i := range got {
		ends.Add(1)
		go func() {
			defer ends.Done()
			got[i] = all(scan)
		}()
	}
	ends.Wait()
	for i := range got {
		if !slices.Equal(got[i], want) {
			t.Errorf("scan %d: %v", i, got[i])
		}
	}
}

// lookBack holds what a scan tells of any bytes against those bytes: P10.5.
func lookBack(t *testing.T, s string) []told {
	t.Helper()
	list := all(frame.Scan(s))
	at, again := 0, ""
	for i, one := range list {
		f := one.frame
		if f.At != at || one.place != f.At+frame.Size(len(f.Body)) {
			t.Errorf("Scan(%.200q): frame %d: %v, behind %d", s, i, one, at)
		}
		if i > 0 && f.Number != list[i-1].frame.Number+1 {
			t.Errorf("Scan(%.200q): frame %d: %v", s, i, one)
		}
		again += made(t, f.Kind, f.Number, f.Body)
		at = one.place
	}
	if again != s[:at] {
		t.Errorf("Scan(%.200q): the frames are %.200q", s, again)
	}
	return list
}

// spoilt is bytes with something done to them.
func spoilt(r *rand.Rand, s string) string {
	b := []byte(s)
	at := r.IntN(len(b) + 1)
	switch r.IntN(7) {
	case 0:
		return s[:at]
	case 1:
		return s[at:]
	case 2:
		return s[:at] + someBytes(r, 1+r.IntN(3)) + s[at:]
	case 3:
		return s[:at] + s[min(len(s), at+1+r.IntN(3)):]
	case 4:
		return s + someBytes(r, r.IntN(40))
	case 5:
		if at < len(b) {
			b[at] ^= byte(1 + r.IntN(255))
		}
	}
	return string(b)
}

// someRow is frames, forged ones among them, of which most have the next number.
func someRow(r *rand.Rand) string {
	s := ""
	number := oneOf(r, 1, 2, 5, 255, 65535, 1<<31-1, api.MaxNumber-3, api.MaxNumber-2, api.MaxNumber-1)
	for range r.IntN(6) {
		body := someBytes(r, oneOf(r, 0, 0, 1, 2, 3, 7))
		s += forged(oneOf(r, mostly...), byte(oneOf(r, 1, 1, 1, 1, 2, 2, 2, 2, 2, 3)), number, oneOf(r, len(body), len(body), len(body), len(body), len(body), len(body)+1), body)
		number += oneOf(r, 1, 1, 1, 1, 1, 1, 1, 0, 2)
		if number > api.MaxNumber {
			number = 0
		}
	}
	return s
}

var mostly = []byte{183, 183, 183, 183, 183, 183, 183, 183, 183, 182}

// P10.4, P10.5: any bytes, against a scan of another make.
func TestScanAnyBytes(t *testing.T) {
	r := rand.New(rand.NewPCG(10, 5))
	counts := map[int]int{}
	for range 6000 {
		s := someRow(r)
		for range r.IntN(3) {
			s = spoilt(r, s)
		}
		got := lookBack(t, s)
		if want := slowScan(s); !slices.Equal(got, want) {
			t.Errorf("Scan(%q): %v, not %v", s, got, want)
		}
		counts[len(got)]++
	}
	for n := range 5 {
		if counts[n] < 50 {
			t.Errorf("%d scans of %d frames", counts[n], n)
		}
	}
}

// P10.5: bytes that are no frames at all.
func TestScanNoFrames(t *testing.T) {
	r := rand.New(rand.NewPCG(10, 6))
	for n := range 300 {
		if l := lookBack(t, someBytes(r, n)); len(l) != 0 {
			t.Errorf("%v", l)
		}
		for _, s := range []string{strings.Repeat("\x00", n), strings.Repeat("\xff", n), strings.Repeat("\xb7", n), strings.Repeat("\xb7\x01", n), strings.Repeat("\xb7\x01\x00\x00\x00\x01\x00\x00\x00\x00", n)} {
			if l := lookBack(t, s); len(l) != 0 {
				t.Errorf("%v", l)
			}
		}
	}
}

// P10.6: frames cut anywhere.
func TestScanCut(t *testing.T) {
	r := rand.New(rand.NewPCG(10, 7))
	inner := made(t, 1, 21, "in")
	for _, bodies := range [][]string{
		{"ab", "", "xyz"}, {""}, {"", "", ""}, {inner, inner + inner, "\xb7\x02"},
		{someBytes(r, 100), someBytes(r, 300), "", someBytes(r, 20), "x"},
	} {
		s, want := row(t, 20, bodies...)
		for cut := range len(s) + 1 {
			look(t, "cut", s[:cut], ahead(want, cut))
			for _, tail := range []string{strings.Repeat("\x00", 30), strings.Repeat("\xff", 30), s, s[:cut]} {
				look(t, "cut, then other bytes", s[:cut]+tail, ahead(want, common(s, s[:cut]+tail)))
			}
		}
	}
}

// common is how many bytes two texts begin with that are the same.
func common(a, b string) int {
	n := 0
	for n < len(a) && n < len(b) && a[n] == b[n] {
		n++
	}
	return n
}

// P10.6: each byte of a row turned into every other.
func TestScanTurned(t *testing.T) {
	r := rand.New(rand.NewPCG(10, 8))
	for _, bodies := range [][]string{{"ab", "", "xyz"}, {"", someBytes(r, 60), "\x00\x00"}} {
		s, want := row(t, api.MaxNumber-3, bodies...)
		for at := range s {
			for by := 1; by < 256; by++ {
				turned := s[:at] + string([]byte{s[at] ^ byte(by)}) + s[at+1:]
				look(t, "turned", turned, ahead(want, at))
			}
		}
	}
}

// P10.6: a byte of a long frame turned.
func TestScanTurnedLong(t *testing.T) {
	r := rand.New(rand.NewPCG(10, 9))
	s, want := row(t, 1, "first", someBytes(r, 40000), "last")
	for range 200 {
		at := 23 + r.IntN(want[1].place-23)
		look(t, "turned", s[:at]+string([]byte{s[at] ^ byte(1+r.IntN(255))})+s[at+1:], want[:1])
	}
}

// P10.6: with any bytes behind them all of them are told; more only, if these begin with a whole frame that has the next number.
func TestScanBehind(t *testing.T) {
	r := rand.New(rand.NewPCG(10, 10))
	s, want := row(t, 30, "a", "", "ccc")
	for n := range 200 {
		look(t, "any bytes behind", s+someBytes(r, n), want)
	}
	look(t, "the same again", s+s, want)
	next := made(t, 2, 33, "next")
	more := append(slices.Clone(want), told{len(s) + 22, api.Frame{Kind: 2, Number: 33, At: len(s), Body: "next"}})
	look(t, "the next", s+next, more)
	look(t, "the next, then bytes", s+next+"\xb7\x01\x00", more)
	look(t, "the next twice", s+next+next, more)
	for n := range len(next) {
		look(t, "the next, torn", s+next[:n], want)
		look(t, "the next, later", s+someBytes(r, n+1)+next, want)
	}
	for _, number := range []int{1, 29, 30, 31, 32, 34, 35, 289, api.MaxNumber - 1} {
		look(t, "another", s+made(t, 1, number, "next"), want)
		look(t, "another, then the next", s+made(t, 1, number, "next")+next, want)
	}
}

// P10.7: what was told is as it was, whatever is asked later.
func TestScanTellsWhatStays(t *testing.T) {
	r := rand.New(rand.NewPCG(10, 11))
	var scans []iter.Seq2[int, api.Frame]
	var got, want [][]told
	for i := range 50 {
		body := someBytes(r, 1+r.IntN(50))
		s, told := row(t, 1+i, body, "", body+body)
		scan := frame.Scan(s)
		scans, got, want = append(scans, scan), append(got, all(scan)), append(want, told)
	}
	for range 2 {
		for i := range want {
			if !slices.Equal(got[i], want[i]) {
				t.Errorf("what scan %d told is %v now, not %v", i, got[i], want[i])
			}
			if again := all(scans[i]); !slices.Equal(again, want[i]) {
				t.Errorf("scan %d again: %v, not %v", i, again, want[i])
			}
		}
	}
}

// P10.7, W6: a scan of bytes that were taken from a buffer tells nothing of what the buffer becomes; what is told can be changed.
func TestScanSharesNothing(t *testing.T) {
	s, want := row(t, 1, "one", "two")
	buffer := []byte(s)
	scan := frame.Scan(string(buffer))
	for i := range buffer {
		buffer[i] = 0
	}
	for _, f := range scan {
		f.Number, f.At, f.Body = 0, 0, ""
	}
	if got := all(scan); !slices.Equal(got, want) {
		t.Errorf("%v, not %v", got, want)
	}
}

// P10.2, W3, P10.7: a call leaves nothing for the next one.
func TestEncodeKeepsNothing(t *testing.T) {
	first := made(t, 1, 5, "ab")
	sum := frame.Sum("123456789")
	for _, body := range []string{"", "other", strings.Repeat("x", api.MaxFrame+1)} {
		frame.Encode(2, 6, body)
		frame.Encode(3, 0, body)
		for range frame.Scan(body + first) {
		}
		if again := made(t, 1, 5, "ab"); again != first || again != slowFrame(1, 5, "ab") {
			t.Errorf("Encode(1, 5, ab) behind others: %q, not %q", again, first)
		}
		if again := frame.Sum("123456789"); again != sum {
			t.Errorf("Sum behind others: %d, not %d", again, sum)
		}
	}
}
