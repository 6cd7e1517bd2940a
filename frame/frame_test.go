package frame_test

import (
	"math/rand/v2"
	"strings"
	"testing"

	"postbag/api"
	"postbag/frame"
)

const (
	least = -1 << 63
	most  = 1<<63 - 1
)

func oneOf[E any](r *rand.Rand, l ...E) E { return l[r.IntN(len(l))] }

// someBytes is n bytes of any kind.
func someBytes(r *rand.Rand, n int) string {
	out := make([]byte, n)
	for i := range out {
		out[i] = byte(r.Uint32())
	}
	return string(out)
}

// made is a frame.
func made(t *testing.T, kind, number int, body string) string {
	t.Helper()
	s, e := frame.Encode(kind, number, body)
	if e != api.OK {
		t.Fatalf("Encode(%d, %d, %.40q): %d", kind, number, body, e)
	}
	return s
}

// P10.1
func TestSum(t *testing.T) {
	for _, c := range []struct {
		s    string
		want int
	}{
		{"", 0},
		{"123456789", 3421780262},
		{"a", 3904355907},
		{"\x00", 0xd202ef8d},
		{"\xff", 0xff000000},
		{"\xff\xff\xff\xff", api.MaxNumber}, // each byte makes the register's lowest one 0, and zeros follow
		{"\x00\x00\x00\x00", 0x2144df1c},
		{"The quick brown fox jumps over the lazy dog", 0x414fa339},
		{strings.Repeat("\x00", 32), 0x190a55ad},
		{strings.Repeat("\xff", 32), 0xff6cab0b},
	} {
		if got := frame.Sum(c.s); got != c.want {
			t.Errorf("Sum(%q): %d, not %d", c.s, got, c.want)
		}
	}
}

// P10.1: every single byte, and every one in front of and behind others, against a sum that is reckoned turn by turn.
func TestSumOfEachByte(t *testing.T) {
	for b := range 256 {
		one := string([]byte{byte(b)})
		for _, s := range []string{one, one + one, "x" + one, one + "x", "\xff\x00" + one + "\x80\x7f"} {
			if got, want := frame.Sum(s), slowSum(s); got != want {
				t.Errorf("Sum(%q): %d, not %d", s, got, want)
			}
		}
	}
}

// P10.1: texts of every length up to some, and long ones.
func TestSumOfTexts(t *testing.T) {
	r := rand.New(rand.NewPCG(10, 1))
	high := 0
	for n := range 600 {
		s := someBytes(r, n)
		got, want := frame.Sum(s), slowSum(s)
		if got != want || got < 0 || got > api.MaxNumber {
			t.Errorf("Sum of %d bytes: %d, not %d", n, got, want)
		}
		if again := frame.Sum(s); again != got {
			t.Errorf("Sum of %d bytes: %d, then %d", n, got, again)
		}
		high = max(high, got)
	}
	if high <= api.MaxNumber/2 {
		t.Errorf("no sum has its highest bit")
	}
	for _, s := range []string{
		someBytes(r, 100000), someBytes(r, api.MaxFrame), someBytes(r, 3000001),
		strings.Repeat("\x00", 100000), strings.Repeat("\xff", 99999), strings.Repeat("été\r\n", 20000),
	} {
		if got, want := frame.Sum(s), slowSum(s); got != want {
			t.Errorf("Sum of %d bytes: %d, not %d", len(s), got, want)
		}
	}
}

// P10.1: sums at both ends of what they may be: the last four bytes are chosen so.
func TestSumAtItsEnds(t *testing.T) {
	for _, ahead := range []string{"", "a", "postbag", "\x00\xff"} {
		for _, want := range []int{0, 1, api.MaxNumber - 1, api.MaxNumber} {
			s := ahead + fourFor(ahead, want)
			if slowSum(s) != want {
				t.Fatalf("four bytes behind %q: %d, not %d", ahead, slowSum(s), want)
			}
			if got := frame.Sum(s); got != want {
				t.Errorf("Sum(%q): %d, not %d", s, got, want)
			}
		}
	}
}

// fourFor is four bytes behind which the sum is so: from the sum wanted the turns are gone back, one by one.
func fourFor(ahead string, sum int) string {
	register := sum ^ 4294967295
	for range 32 {
		high := register >= 1<<31
		if high {
			register ^= 3988292384
		}
		register *= 2
		if high {
			register++
		}
	}
	register ^= slowSum(ahead) ^ 4294967295
	out := make([]byte, 4)
	for i := range out {
		out[i] = byte(register % 256)
		register /= 256
	}
	return string(out)
}

// P10.2: what is no frame, and which error comes first.
func TestEncodeRefuses(t *testing.T) {
	long := strings.Repeat("x", api.MaxFrame+1)
	for _, c := range []struct {
		kind, number int
		body         string
		want         api.Errno
	}{
		{3, 1, "", api.ErrArg},
		{0, 1, "", api.ErrArg},
		{-1, 1, "", api.ErrArg},
		{-2, 1, "ab", api.ErrArg},
		{183, 1, "", api.ErrArg},
		{257, 1, "", api.ErrArg},
		{258, 1, "", api.ErrArg},
		{1<<32 + 1, 1, "", api.ErrArg},
		{least, 1, "", api.ErrArg},
		{most, 1, "", api.ErrArg},
		{1, 0, "", api.ErrNumber},
		{2, 0, "ab", api.ErrNumber},
		{1, -1, "", api.ErrNumber},
		{1, -5, "", api.ErrNumber},
		{1, least, "", api.ErrNumber},
		{1, api.MaxNumber, "", api.ErrNumber},
		{2, api.MaxNumber, "ab", api.ErrNumber},
		{1, api.MaxNumber + 1, "", api.ErrNumber},
		{1, api.MaxNumber + 2, "", api.ErrNumber},
		{2, most, "", api.ErrNumber},
		{1, 1, long, api.ErrLong},
		{2, api.MaxNumber - 1, long + long, api.ErrLong},
		{3, 1, long, api.ErrLong},
		{1, 0, long, api.ErrLong},
		{3, 0, long, api.ErrLong},
		{3, 0, "", api.ErrArg},
		{0, 0, "", api.ErrArg},
		{-1, api.MaxNumber, "ab", api.ErrArg},
		{least, most, "", api.ErrArg},
	} {
		if s, e := frame.Encode(c.kind, c.number, c.body); s != "" || e != c.want {
			t.Errorf("Encode(%d, %d, %d bytes): %.40q, %d, not %d", c.kind, c.number, len(c.body), s, e, c.want)
		}
	}
}

// P10.2: a frame's bytes, one by one.
func TestEncode(t *testing.T) {
	s := made(t, api.FrameEvent, 5, "ab")
	head := "\xb7\x01\x00\x00\x00\x05\x00\x00\x00\x02"
	if want := head + four(slowSum(head)) + "ab" + four(slowSum(head+four(slowSum(head))+"ab")); s != want || len(s) != 20 {
		t.Errorf("Encode(1, 5, ab): %q, not %q", s, want)
	}
	if s, want := made(t, api.FrameStore, 0x01020304, strings.Repeat("-", 0x010203)), "\xb7\x02\x01\x02\x03\x04\x00\x01\x02\x03"; s[:10] != want {
		t.Errorf("Encode(2, 16909060, 66051 bytes): %q, not %q", s[:10], want)
	}
	r := rand.New(rand.NewPCG(10, 2))
	for _, kind := range []int{1, 2} {
		for _, number := range []int{1, 2, 255, 256, 65535, 65536, 16777215, 16777216, 1<<31 - 1, 1 << 31, api.MaxNumber - 2, api.MaxNumber - 1} {
			for _, n := range []int{0, 1, 2, 3, 4, 5, 18, 255, 256, 257, 3000} {
				body := someBytes(r, n)
				got, want := made(t, kind, number, body), slowFrame(kind, number, body)
				if got != want || len(got) != frame.Size(n) {
					t.Errorf("Encode(%d, %d, %d bytes): %.40q, not %.40q", kind, number, n, got, want)
				}
			}
		}
	}
}

// P10.2: long bodies, up to the longest.
func TestEncodeLong(t *testing.T) {
	r := rand.New(rand.NewPCG(10, 3))
	for _, n := range []int{65535, 65536, 1<<20 + 1, api.MaxFrame - 1, api.MaxFrame} {
		body := someBytes(r, n)
		if made(t, api.FrameStore, 7, body) != slowFrame(2, 7, body) {
			t.Errorf("Encode of %d bytes", n)
		}
	}
	if made(t, 1, 1, strings.Repeat("\x00", api.MaxFrame)) != slowFrame(1, 1, strings.Repeat("\x00", api.MaxFrame)) {
		t.Errorf("Encode of zeros")
	}
}

// P10.2: a body of any bytes, one that is a frame itself too.
func TestEncodeAnyBody(t *testing.T) {
	inner := made(t, 1, 2, "in")
	for _, body := range []string{"\x00", "\xff\xff\xff\xff", "\r\n", "日本", "\xb7", inner, inner + inner, inner[:5]} {
		got := made(t, 2, 9, body)
		if got != slowFrame(2, 9, body) || got[14:len(got)-4] != body {
			t.Errorf("Encode(2, 9, %q): %q", body, got)
		}
	}
}

// P10.3
func TestSize(t *testing.T) {
	for _, c := range []struct{ body, want int }{
		{0, 18}, {1, 19}, {2, 20}, {20, 38}, {65536, 65554},
		{api.MaxFrame - 1, 2097169}, {api.MaxFrame, 2097170}, {api.MaxFrame + 1, 0}, {2097153, 0}, {api.MaxFrame + 18, 0},
		{-1, 0}, {-17, 0}, {-18, 0}, {-19, 0}, {-api.MaxFrame, 0},
		{1 << 31, 0}, {1 << 32, 0}, {1<<32 + 5, 0}, {-1<<32 + 5, 0},
		{least, 0}, {least + 1, 0}, {least + 20, 0}, {most, 0}, {most - 17, 0}, {most - 18, 0},
	} {
		if got := frame.Size(c.body); got != c.want {
			t.Errorf("Size(%d): %d, not %d", c.body, got, c.want)
		}
	}
}
