package answer_test

import (
	"math/rand/v2"
	"strings"
	"testing"

	"postbag/answer"
	"postbag/api"
)

// P15.5: what is told does not hang on the pieces.
func TestPieces(t *testing.T) {
	all := strings.Join(lines(), crlf) + "\r\nx\r\n{3}\r\n\r\n\r\r\n{9}\r\n{70000}\r\n{70000}\r\n* 1 EX"
	whole := answer.New()
	whole.Feed(all)
	want := told(whole)
	if len(want) != len(lines())+3 {
		t.Fatalf("%d answers", len(want))
	}
	for _, size := range []int{1, 2, 3, 4, 5, 7, 16, 61, 100, 1000, len(all) - 1, len(all)} {
		each, last := answer.New(), answer.New()
		var got []api.Answer
		for rest := all; rest != ""; {
			piece := rest[:min(size, len(rest))]
			rest = rest[len(piece):]
			for _, r := range []*answer.Reader{each, last} {
				r.Feed("")
				r.Feed(piece)
				r.Feed("")
			}
			got = append(got, told(each)...)
		}
		if !areSame(got, want) || !areSame(told(last), want) {
			t.Errorf("pieces of %d: %.500s", size, allShown(got))
		}
	}
	r := rand.New(rand.NewPCG(15, 5))
	for range 200 {
		reader := answer.New()
		var got []api.Answer
		for _, piece := range cut(r, all, oneOf(r, 1, 3, 10, 50)) {
			reader.Feed(piece)
			for r.IntN(2) == 0 {
				if a, is := reader.Next(); is {
					got = append(got, a)
				}
			}
		}
		if got = append(got, told(reader)...); !areSame(got, want) {
			t.Fatalf("pieces by chance: %.500s", allShown(got))
		}
	}
}

// P15.5: each answer is told with its last byte, and not ahead of it.
func TestAtOnce(t *testing.T) {
	reader := answer.New()
	for range 2 {
		for _, line := range append(lines(), "x", "", "{70000}", "{2}\r\n\r\n", "\r", "\n") {
			whole := line + crlf
			for i := range len(whole) {
				if a, is := reader.Next(); is {
					t.Fatalf("%q is told behind %q", shown(a), whole[:i])
				}
				reader.Feed(whole[i : i+1])
			}
			if a, is := reader.Next(); !is || bytesOf(t, a) != whole {
				t.Fatalf("%q: %s, %v", whole, shown(a), is)
			}
		}
	}
}

// P15.5: a new reader, a zero one and a nil one.
func TestReaders(t *testing.T) {
	var zero answer.Reader
	for _, r := range []*answer.Reader{answer.New(), &zero, {}} {
		for range 3 {
			if a, is := r.Next(); is || shown(a) != shown(api.Answer{}) {
				t.Errorf("a reader that has heard nothing: %s", shown(a))
			}
		}
		r.Feed("")
		r.Feed("* 1 EX")
		r.Feed("ISTS\r")
		if a, is := r.Next(); is || shown(a) != shown(api.Answer{}) {
			t.Errorf("not whole: %s", shown(a))
		}
		r.Feed("\n* 01 EXISTS\r\n")
		if got, want := told(r), []api.Answer{{Kind: api.AnswerExists, Num: 1}, bad("* 01 EXISTS")}; !areSame(got, want) {
			t.Errorf("%s", allShown(got))
		}
	}
	var none *answer.Reader
	for range 2 {
		none.Feed("* 1 EXISTS\r\n")
		if a, is := none.Next(); is || shown(a) != shown(api.Answer{}) {
			t.Errorf("a nil reader: %s", shown(a))
		}
	}
	if one, two := answer.New(), answer.New(); one == nil || one == two {
		t.Error("New: none, or one for all")
	}
}

// P15.5 (W2): two readers in turns know nothing of each other.
func TestTwoReaders(t *testing.T) {
	one, two := answer.New(), &answer.Reader{}
	first := "* 1 FETCH (X {4}\r\n\r\n\r\n Y 2)\r\n* LIST () \"/\" x\r\n"
	second := "* SEARCH 1 2\r\n* LIST () \"/\" {70000}\r\n* STATUS {3}\r\n\x80\r\n (A 1)\r\n"
	for i := range max(len(first), len(second)) {
		if i < len(first) {
			one.Feed(first[i : i+1])
		}
		if i < len(second) {
			two.Feed(second[i : i+1])
		}
		if i == len(first)/2 {
			one.Next()
			two.Feed("")
		}
	}
	wantOne := []api.Answer{fetch(api.Datum{Name: "X", Value: str("\r\n\r\n")}, api.Datum{Name: "Y", Value: num(2)}), {Kind: api.AnswerList, Name: "x"}}
	wantTwo := []api.Answer{{Kind: api.AnswerSearch, Nums: []int{1, 2}}, bad(`* LIST () "/" {70000}`), status("\x80\r\n", atom("A"), num(1))}
	var gotOne, gotTwo []api.Answer
	for range 4 {
		if a, is := one.Next(); is {
			gotOne = append(gotOne, a)
		}
		if a, is := two.Next(); is {
			gotTwo = append(gotTwo, a)
		}
	}
	if !areSame(gotOne, wantOne) || !areSame(gotTwo, wantTwo) {
		t.Errorf("%s, and %s", allShown(gotOne), allShown(gotTwo))
	}
}

// P15.3, P15.5: much that comes byte by byte is looked at once only.
func TestMuchInSmallPieces(t *testing.T) {
	all := times(300, "* 1 FETCH (X {4000}\r\n"+times(2000, "\r\n")+" Y (1 2 3))\r\n") + times(500000, "x") + times(100000, "{1") + crlf
	r := answer.New()
	count := 0
	for i := range len(all) {
		r.Feed(all[i : i+1])
		if _, is := r.Next(); is {
			count++
		}
	}
	if count != 301 {
		t.Errorf("%d answers", count)
	}
	r.Feed(times(200000, "* 1 EXISTS\r\n"))
	if got := len(told(r)); got != 200000 {
		t.Errorf("%d answers", got)
	}
}
