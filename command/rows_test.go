package command_test

import (
	"math/rand/v2"
	"runtime"
	"strconv"
	"strings"
	"testing"

	"postbag/api"
	"postbag/command"
)

// P14.10, P14.11: commands as Print writes them, one behind the other, in any pieces.
func TestRows(t *testing.T) {
	t.Parallel()
	r := rand.New(rand.NewPCG(14, 11))
	for turn := range 300 {
		var all strings.Builder
		var want []api.Command
		for range 1 + r.IntN(12) {
			c := someCommand(r)
			if form, e := command.Print(c); e == api.OK {
				all.WriteString(form)
				want = append(want, c)
			}
		}
		reader := command.New()
		var got []api.Input
		for _, piece := range cut(r, all.String(), oneOf(r, 1, 2, 7, 100, 100000)) {
			reader.Feed(piece)
			if turn%2 == 0 || r.IntN(5) == 0 {
				for in, is := reader.Next(); is; in, is = reader.Next() {
					got = append(got, in)
				}
			}
		}
		for in, is := reader.Next(); is; in, is = reader.Next() {
			got = append(got, in)
		}
		if len(got) != len(want) {
			t.Fatalf("%q: %d inputs, not %d", all.String(), len(got), len(want))
		}
		for i, in := range got {
			if in.Kind != api.InCommand || shown(in.Command) != shown(want[i]) || strings.Contains(short(in), "and") {
				t.Fatalf("%q: %+v, not %s", all.String(), in, shown(want[i]))
			}
		}
		if n := reader.Pending(); n != 0 {
			t.Fatalf("%d pending", n)
		}
	}
}

// someBytes is a few lines by chance: commands, what is nearly one, literals that look like lines, lines that look like literals.
func someBytes(r *rand.Rand) string {
	literal := func() string {
		text := oneOf(r, "", "x", "joe", "b NOOP\r\n", "\r\n", "{3+}\r\n", "done\r\n", "\x00", "\r", "\n", "x {5}\r\nhello", times(r.IntN(60), "y"))
		return "{" + oneOf(r, "", "0") + strconv.Itoa(len(text)) + oneOf(r, "", "+") + "}\r\n" + text
	}
	switch r.IntN(16) {
	case 0, 1, 2:
		if form, e := command.Print(someCommand(r)); e == api.OK {
			return form
		}
	case 3, 4:
		return oneOf(r, "done", "DONE", "Done", "a NOOP", "b IDLE", "", "x", "a", "+ NOOP", " ") + crlf
	case 5, 6, 7:
		return oneOf(r, "a LOGIN ", "b CREATE ", "c ", "", "d X \"", "e X \"\" ", "f X \\\"") + literal() + oneOf(r, "", " ", "\"") + literal() + crlf
	case 8:
		return oneOf(r, "a CREATE ", "a \"", "") + oneOf(r, "{3}", "{3+}", "{16385}", "{40000}", "{4294967296}", "{20+}", "{x}", "{3}x") + crlf
	case 9:
		return "a CREATE {16385+}\r\n" + times(16385, oneOf(r, "x", "\n")) + oneOf(r, "", " ") + oneOf(r, crlf, literal()+crlf)
	case 10:
		return "a " + times(oneOf(r, 10, 4092, 4093, 5000, 9000, 20000), oneOf(r, "w", "\"", "{1", "0", "\\")) + oneOf(r, "", " {3+}", " {3}", "\"{3+}") + crlf
	case 11:
		return oneOf(r, "\r", "\n", "\x00", "a \rb", "a \nb", "a \x00b") + oneOf(r, "", literal()) + crlf
	case 12:
		return times(1+r.IntN(4), oneOf(r, "\r", "\n", "\r\n", "\n\r", "{", "}", "\"", "\\", "{0+}", " "))
	case 13:
		text := times(16384, oneOf(r, "z", "\r\n"))[:16384]
		return "a X {16384+}\r\n" + text + " {16384+}\r\n" + text + " {" + strconv.Itoa(8100+r.IntN(60)) + oneOf(r, "", "+") + "}\r\n" + times(r.IntN(2)*8120, "q") + crlf
	case 14:
		var s strings.Builder
		const letters = "a {1+}\r\n\"\\0x\x00"
		for range r.IntN(30) {
			s.WriteByte(letters[r.IntN(len(letters))])
		}
		return s.String()
	case 15:
		if r.IntN(3) == 0 {
			return "z {4294967296+}\r\n"
		}
	}
	return "n NOOP\r\n"
}

// P14.4 to P14.8, P14.12, P14.13: bytes by chance in pieces by chance, with Idle turned now and then: all is as by the other make.
func TestBytesByChance(t *testing.T) {
	t.Parallel()
	r := rand.New(rand.NewPCG(14, 12))
	seen := map[string]int{}
	for turn := range 500 {
		var all strings.Builder
		for range 1 + r.IntN(8) {
			all.WriteString(someBytes(r))
		}
		if turn%3 == 0 {
			all.WriteString("\r\n\r\n" + times(20, "q NOOP\r\n"))
		}
		var fast command.Reader
		var slow slowReader
		row := ""
		sizes := []int{1, 3, 20, 100, 500}
		if all.Len() > 3000 { // the other make goes through all of it at each piece
			sizes = []int{2000, 10000, 100000}
		}
		for _, piece := range cut(r, all.String(), oneOf(r, sizes...)) {
			fast.Feed(piece)
			slow.Feed(piece)
			for range oneOf(r, 0, 1, 2, 100) {
				if r.IntN(12) == 0 {
					isOn := r.IntN(2) == 0
					fast.Idle(isOn)
					slow.Idle(isOn)
				}
				got, is := fast.Next()
				want, isToo := slow.Next()
				row += " " + short(want)
				if short(got) != short(want) || is != isToo || shown(got.Command) != shown(want.Command) {
					t.Fatalf("%.2000q:%s: %s, %v, not %s, %v", all.String(), row, short(got), is, short(want), isToo)
				}
				if fast.Pending() != slow.Pending() {
					t.Fatalf("%.2000q:%s: %d pending, not %d", all.String(), row, fast.Pending(), slow.Pending())
				}
				if !is {
					break
				}
				seen[strconv.Itoa(got.Kind)+" "+strconv.Itoa(int(got.Why))]++
			}
		}
	}
	for _, kind := range []string{"1 0", "2 3", "2 140", "2 141", "2 142", "2 143", "3 0", "4 0"} {
		if seen[kind] < 10 {
			t.Errorf("inputs of the kind %s: %d only", kind, seen[kind])
		}
	}
}

// P14.4, P14.11: what is told does not hang on the pieces.
func TestAnyPieces(t *testing.T) {
	t.Parallel()
	r := rand.New(rand.NewPCG(14, 7))
	for range 40 {
		var all strings.Builder
		for range 1 + r.IntN(6) {
			all.WriteString(someBytes(r))
		}
		isOn := r.IntN(4) == 0
		whole := command.New()
		whole.Idle(isOn)
		whole.Feed(all.String())
		want := told(whole)
		for _, most := range []int{1, 2, 3, 10, 1000} {
			reader := command.New()
			reader.Idle(isOn)
			var got []string
			for _, piece := range cut(r, all.String(), most) {
				reader.Feed(piece)
				if s := told(reader); s != "" {
					got = append(got, s)
				}
			}
			if s := strings.Join(got, " "); s != want || reader.Pending() != whole.Pending() {
				t.Fatalf("%.2000q in pieces up to %d: %q, not %q", all.String(), most, s, want)
			}
		}
	}
}

// P14.12, P14.13: literals that look like lines, and swallowed ones: each command that was made is told once, with its tag.
func TestEachOnce(t *testing.T) {
	t.Parallel()
	r := rand.New(rand.NewPCG(14, 13))
	for range 200 {
		var all strings.Builder
		var want []string
		for i := range 1 + r.IntN(9) {
			tag := "t" + strconv.Itoa(i)
			text := oneOf(r, "x NOOP\r\n", "done\r\n\r\n", "{9+}\r\n", "\r", "\n", "x", "y {4294967296+}\r\n", "z {1}\r\n", times(2100, "q NOOP\r\n"))
			size := strconv.Itoa(len(text))
			why := "140"
			switch kind := r.IntN(5); {
			case kind == 0:
				all.WriteString(tag + " NOOP\r\n")
				want = append(want, tag+":2")
			case len(text) > api.MaxLiteral && kind < 3:
				all.WriteString(tag + " CREATE {" + size + "}\r\n")
				want = append(want, "bad:"+tag+":143")
			case len(text) > api.MaxLiteral:
				why = "143"
				fallthrough
			case kind < 3:
				all.WriteString(tag + " X {" + size + "+}\r\n" + text + " {3+}\r\nb\r\n\r\n")
				want = append(want, "bad:"+tag+":"+why)
			case kind == 3:
				all.WriteString(tag + " APPEND {" + size + "+}\r\n" + text + " {" + size + "}\r\n" + text + "\r\n")
				want = append(want, "+", tag+":15")
			default:
				all.WriteString(tag + " \x00 {" + size + "+}\r\n" + text + "\r\n")
				want = append(want, "bad:"+tag+":142")
			}
		}
		reader := command.New()
		var got []string
		for _, piece := range cut(r, all.String(), oneOf(r, 1, 50, 10000)) {
			reader.Feed(piece)
			if s := told(reader); s != "" {
				got = append(got, s)
			}
		}
		if s := strings.Join(got, " "); s != strings.Join(want, " ") || reader.Pending() != 0 {
			t.Fatalf("%.2000q: %q, not %q", all.String(), s, want)
		}
	}
}

// P14.8: what can mean nothing more is not kept, however much of it comes.
func TestRoom(t *testing.T) {
	for _, begin := range []string{"a ", "a \"", "a {", "a {16385+}\r\n", "a {3+}\r\n\x00\x00\x00", "a {4294967295+}\r\n", "a {4294967296+}\r\n"} {
		for _, more := range []string{"x", "0", "\"\\", " {0+}\r\n", "{"} {
			reader := command.New()
			reader.Feed(begin)
			told(reader)
			piece := times(1<<21/len(more), more)
			before := inUse()
			for range 2 {
				reader.Feed(piece)
				for in, is := reader.Next(); is; in, is = reader.Next() {
					if in.Kind == api.InCommand {
						t.Fatalf("%q, %q: %s", begin, more, short(in))
					}
				}
			}
			if grown := inUse() - before; grown > 1<<20 {
				t.Errorf("%q, %q: %d bytes are kept", begin, more, grown)
			}
			runtime.KeepAlive(reader)
			runtime.KeepAlive(piece)
		}
	}
}

func inUse() int {
	runtime.GC()
	var m runtime.MemStats
	runtime.ReadMemStats(&m)
	return int(m.HeapAlloc)
}
