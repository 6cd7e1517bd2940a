package answer_test

import (
	"math"
	"math/rand/v2"
	"strconv"
	"strings"
	"testing"

	"postbag/answer"
	"postbag/api"
)

// Answers by chance: good ones, and such as have one thing that may be wrong.

func someNumber(r *rand.Rand) int {
	return oneOf(r, 1, 2, 10, 1+r.IntN(1000), most-1, most)
}

func someAtom(r *rand.Rand) string {
	const bytes = "abcXYZ019+-.,:;<>=?@!#$&'/^_`|~"
	s := []byte("x")
	for range r.IntN(5) {
		s = append(s, bytes[r.IntN(len(bytes))])
	}
	if r.IntN(4) == 0 {
		return oneOf(r, "UIDS", "01", "4294967296", "OK", "FETCH", "TAG", "x", "FLAGS", "EXISTS", times(40, "y"))
	}
	return string(s)
}

func someSign(r *rand.Rand) string {
	return oneOf(r, `\Seen`, `\*`, `\Deleted`, "5", "NIL", "nil", someAtom(r), `\`+someAtom(r))
}

func someText(r *rand.Rand) string {
	s := oneOf(r, "", "a", "NIL", "a b", `"`, `\`, `a\"`, "{3}", "{3+}", ")", "(", "x\r\n", "\r", "\n", "\r\n", "{1}\r\n", "\x00", "\xff", "é", "* 1 EXISTS\r\n", "\x7f", "5", someAtom(r))
	if r.IntN(3) == 0 {
		s += someText(r)
	}
	return s
}

func someHuman(r *rand.Rand) string {
	return "x" + strings.TrimSuffix(strings.Map(func(c rune) rune { return max(32, c%127) }, someText(r)), "}")
}

func someTag(r *rand.Rand) string {
	return strings.ReplaceAll(someAtom(r)[:1]+someAtom(r), "+", "p")[:2]
}

func someSet(r *rand.Rand) []api.Range {
	var set []api.Range
	for range oneOf(r, 1, 1, 2, 3, api.MaxRanges) {
		n := someNumber(r)
		set = append(set, api.Range{From: n, To: oneOf(r, n, someNumber(r))})
	}
	return set
}

func setAtom(r *rand.Rand) api.Value {
	var pieces []string
	for _, piece := range someSet(r) {
		s := strconv.Itoa(piece.From)
		if piece.From != piece.To {
			s += ":" + strconv.Itoa(piece.To)
		}
		pieces = append(pieces, s)
	}
	return atom(strings.Join(pieces, ","))
}

func someOf[T any](r *rand.Rand, least, most int, one func(*rand.Rand) T) []T {
	var list []T
	for range least + r.IntN(most-least+1) {
		list = append(list, one(r))
	}
	return list
}

func someSigns(r *rand.Rand) api.Value { return atoms(someOf(r, 0, 4, someSign)...) }

func someValue(r *rand.Rand, deep int) api.Value {
	if deep < 24 && r.IntN(3) == 0 {
		return list(someOf(r, 0, 3, func(r *rand.Rand) api.Value { return someValue(r, deep+1) })...)
	}
	return oneOf(r, none(), num(someNumber(r)), num(0), atom(someAtom(r)), str(someText(r)), nested(24-deep))
}

func someDatum(r *rand.Rand) api.Datum {
	name := oneOf(r, "UID", "FLAGS", "FLAGS", "MODSEQ", "ENVELOPE", someAtom(r), someAtom(r)+"[]", "BODY["+someAtom(r)+"]<"+strconv.Itoa(someNumber(r))+">", "BODY[HEADER.FIELDS ("+strings.Join(someOf(r, 1, 3, someAtom), " ")+")]")
	if name == "FLAGS" {
		return api.Datum{Name: name, Value: someSigns(r)}
	}
	return api.Datum{Name: name, Value: someValue(r, 0)}
}

func someTwig(r *rand.Rand, deep int, isAlone bool) api.Twig {
	if deep > 12 {
		return oneOf(r, uid(someNumber(r)), chain(64-deep+1))
	}
	t := api.Twig{Uid: oneOf(r, 0, someNumber(r), someNumber(r))}
	kids := r.IntN(4)
	if t.Uid == 0 && isAlone {
		t.Uid = 1
	}
	if t.Uid == 0 {
		kids = max(kids, 2)
	}
	for range kids {
		t.Kids = append(t.Kids, someTwig(r, deep+1+r.IntN(6), kids == 1))
	}
	return t
}

func somePairs(r *rand.Rand) []api.Value {
	var pairs []api.Value
	for range r.IntN(4) {
		pairs = append(pairs, atom(someAtom(r)), num(oneOf(r, 0, someNumber(r))))
	}
	return pairs
}

func someState(r *rand.Rand) api.Answer {
	a := api.Answer{Kind: api.AnswerState, Outcome: 1 + r.IntN(4), Code: r.IntN(24), Text: someHuman(r)}
	if a.Outcome != api.OutBye && r.IntN(2) == 0 {
		a.Tag = someTag(r)
	}
	n := num(oneOf(r, 0, someNumber(r)))
	switch a.Code {
	case api.CodeNext, api.CodeValidity, api.CodeUnseen, api.CodeModseq:
		a.Args = []api.Value{n}
	case api.CodePermanent:
		a.Args = []api.Value{someSigns(r)}
	case api.CodeAppend:
		a.Args = []api.Value{n, setAtom(r)}
	case api.CodeCopy:
		a.Args = []api.Value{n, setAtom(r), setAtom(r)}
	case api.CodeModified:
		a.Args = []api.Value{setAtom(r)}
	case api.CodeCapability:
		a.Args = atoms(someOf(r, 1, 4, someAtom)...).Kids
	case api.CodeCharset:
		a.Args = []api.Value{atoms(someOf(r, 0, 3, someAtom)...)}
	}
	return a
}

func someAnswer(r *rand.Rand) api.Answer {
	a := api.Answer{Kind: 1 + r.IntN(17)}
	switch a.Kind {
	case api.AnswerState:
		return someState(r)
	case api.AnswerContinue:
		a.Text = someHuman(r)
	case api.AnswerCapability, api.AnswerEnabled:
		a.Flags = someOf(r, 1, 4, someAtom)
	case api.AnswerFlags:
		a.Flags = someOf(r, 0, 4, someSign)
	case api.AnswerList, api.AnswerLsub:
		a.Flags, a.Name = someOf(r, 0, 3, someSign), someText(r)
	case api.AnswerSearch, api.AnswerSort:
		a.Nums, a.Modseq = someOf(r, 0, 5, someNumber), oneOf(r, 0, someNumber(r))
	case api.AnswerThread:
		a.Twigs = someOf(r, 0, 3, func(r *rand.Rand) api.Twig { return someTwig(r, 1, false) })
	case api.AnswerStatus:
		a.Name, a.Pairs = someText(r), somePairs(r)
	case api.AnswerExists, api.AnswerRecent, api.AnswerExpunge:
		a.Num = someNumber(r)
	case api.AnswerFetch:
		a.Num, a.Data = someNumber(r), someOf(r, 1, 4, someDatum)
	case api.AnswerEsearch:
		a.Tag, a.Uid, a.Pairs, a.Modseq = someTag(r), r.IntN(2) == 0, somePairs(r), oneOf(r, 0, someNumber(r))
		if r.IntN(2) == 0 {
			a.Set = someSet(r)
		}
	}
	return a
}

// P15.6: Print there, a reader back, in any pieces; the same bytes are the same answer.
func TestThereAndBack(t *testing.T) {
	t.Parallel()
	r := rand.New(rand.NewPCG(15, 6))
	kinds := map[int]int{}
	seen := map[string]string{}
	for range 300 {
		answers := someOf(r, 1, 40, someAnswer)
		all := ""
		for _, a := range answers {
			line, e := answer.Print(a)
			if slow, want := slowPrint(a); e != api.OK || line != slow || want != api.OK {
				t.Fatalf("Print(%s): %q, %d, not %q", shown(a), line, e, slow)
			}
			if was, is := seen[line]; is && was != shown(a) {
				t.Fatalf("%q is written of %s and of %s", line, was, shown(a))
			}
			seen[line] = shown(a)
			kinds[a.Kind]++
			all += line
		}
		reader := answer.New()
		var got []api.Answer
		for _, piece := range cut(r, all, oneOf(r, 1, 2, 5, 20, 1000)) {
			reader.Feed(piece)
			if r.IntN(2) == 0 {
				got = append(got, told(reader)...)
			}
		}
		if got = append(got, told(reader)...); !areSame(got, answers) {
			t.Fatalf("%q: %s, not %s", all, allShown(got), allShown(answers))
		}
	}
	for kind := 1; kind < api.AnswerBad; kind++ {
		if kinds[kind] < 50 {
			t.Errorf("kind %d: %d times only", kind, kinds[kind])
		}
	}
}

// spoilt is an answer with one thing turned, which may be wrong then.
func spoilt(r *rand.Rand, a api.Answer) api.Answer {
	n := oneOf(r, 0, -1, 1, most+1, math.MaxInt, math.MinInt)
	text := oneOf(r, someText(r), "", "nil", "5", "x y", "[x", "x{5}", "+", "\r\n")
	kinds := []func(){
		func() { a.Kind = oneOf(r, 0, 18, 19, n, 1+r.IntN(17), 1+r.IntN(17)) },
		func() { a.Tag = text },
		func() { a.Outcome = oneOf(r, 0, 4, 5, n) },
		func() { a.Code = oneOf(r, 0, 24, n, r.IntN(24)) },
		func() { a.Args = spoiltValues(r, a.Args) },
		func() { a.Text = text },
		func() { a.Num = n },
		func() { a.Name = text },
		func() { a.Nums = append(a.Nums, n) },
		func() { a.Flags = append(a.Flags, text) },
		func() { a.Data = append(a.Data, api.Datum{Name: oneOf(r, text, "FLAGS", "X"), Value: someValue(r, 0)}) },
		func() {
			if len(a.Data) > 0 {
				d := &a.Data[r.IntN(len(a.Data))]
				d.Value = list(spoiltValues(r, d.Value.Kids)...)
			}
		},
		func() { a.Twigs = append(a.Twigs, oneOf(r, uid(n), uid(1, uid(n)), uid(0, uid(1), uid(0)), chain(65))) },
		func() {
			a.Set = append(a.Set, oneOf(r, api.Range{}, api.Range{From: n, To: 1}, api.Range{From: 1, To: n}))
		},
		func() { a.Pairs = spoiltValues(r, a.Pairs) },
		func() { a.Uid = !a.Uid },
		func() { a.Modseq = n },
	}
	kinds[r.IntN(len(kinds))]()
	return a
}

func spoiltValues(r *rand.Rand, values []api.Value) []api.Value {
	other := oneOf(r, none(), num(5), num(-1), num(most+1), atom("5"), atom("UID"), atom("nil"), atom(`\Seen`), atom(""), atom("1:2"), atom("1:1"), atom("*"), str("5"), str(times(70000, "\n")), list(), atoms(`\Seen`), atoms("x"), nested(25), api.Value{Kind: 5}, api.Value{Text: "x"}, api.Value{Kind: 2, Text: "x", Num: 1})
	if len(values) == 0 {
		return []api.Value{other}
	}
	at := r.IntN(len(values))
	switch r.IntN(4) {
	case 0:
		return values[:at]
	case 1:
		return append(values, other)
	case 2:
		values[at].Kids = append(values[at].Kids, other)
	default:
		values[at] = other
	}
	return values
}

// P15.1, P15.2, P15.6: answers by chance that may be none.
func TestAnswersByChance(t *testing.T) {
	t.Parallel()
	r := rand.New(rand.NewPCG(15, 1))
	taken := 0
	const all = 20000
	for range all {
		a := spoilt(r, someAnswer(r))
		line, e := answer.Print(a)
		if slow, want := slowPrint(a); line != slow || e != want {
			t.Fatalf("Print(%.500s): %.300q, %d, not %.300q, %d", shown(a), line, e, slow, want)
		}
		if e == api.OK {
			tells(t, line, a)
			taken++
		}
	}
	if taken < all/10 || taken > all*9/10 {
		t.Errorf("%d of %d were answers", taken, all)
	}
}

func mutated(r *rand.Rand, s string) string {
	for range oneOf(r, 0, 1, 1, 2, 3) {
		at := r.IntN(len(s) + 1)
		to := min(len(s), at+r.IntN(3))
		s = s[:at] + oneOf(r, "", " ", "0", "(", ")", "]", "[", "\"", "\\", "x", "{0}\r\n", "{2}\r\n", "{65536}\r\n", "{65537}\r\n", "\r\n", "\r", "\n", "\x00", "\xe9", "NIL", "* ", "OK", ",", ":", "*", "<0>", s[at:to]) + s[to:]
	}
	return s
}

// P15.3, P15.4, P15.7: bytes by chance; what is told, joined again, is a beginning of what was fed, and each of it is what it must be.
func TestBytesByChance(t *testing.T) {
	t.Parallel()
	r := rand.New(rand.NewPCG(15, 7))
	good, wrong := 0, 0
	for range 5000 {
		all := ""
		for range 1 + r.IntN(4) {
			line, _ := slowPrint(someAnswer(r))
			all += mutated(r, line)
		}
		reader := answer.New()
		for _, piece := range cut(r, all, oneOf(r, 2, 10, 1000)) {
			reader.Feed(piece)
		}
		joined := ""
		cuts := slowCut(all)
		got := told(reader)
		if len(got) != len(cuts) {
			t.Fatalf("%q: %s", all, allShown(got))
		}
		for i, a := range got {
			joined += bytesOf(t, a)
			holds(t, cuts[i], a)
			if a.Kind == api.AnswerBad {
				wrong++
			} else {
				good++
			}
		}
		if t.Failed() || !strings.HasPrefix(all, joined) {
			t.Fatalf("%q: %q", all, joined)
		}
	}
	if good < 2000 || wrong < 2000 {
		t.Errorf("%d good ones, %d others", good, wrong)
	}
}

// P15.7: bytes that are nothing at all.
func TestAnyBytes(t *testing.T) {
	t.Parallel()
	r := rand.New(rand.NewPCG(15, 70))
	for range 3000 {
		var all strings.Builder
		for range r.IntN(60) {
			all.WriteString(oneOf(r, "\r\n", "\r\n", "\r", "\n", "{", "}", "{1}", "{0}", "{03}", "{9}", "{65537}", "* ", "1 ", "EXISTS", "OK x", string([]byte{byte(r.IntN(256))})))
		}
		fed := all.String()
		reader := answer.New()
		reader.Feed(fed)
		joined := ""
		for i, a := range told(reader) {
			joined += bytesOf(t, a)
			holds(t, slowCut(fed)[i], a)
		}
		if cuts := slowCut(fed); joined != strings.Join(append(cuts, "")[:len(cuts)], crlf)+times(min(1, len(cuts)), crlf) || !strings.HasPrefix(fed, joined) {
			t.Fatalf("%q: %q", fed, joined)
		}
	}
}

// P15.7: in what Print writes a CR LF stands at the end and behind announcements, and within the bytes that they announce.
func TestNoLineOfItsOwn(t *testing.T) {
	t.Parallel()
	r := rand.New(rand.NewPCG(15, 77))
	for range 5000 {
		a := someAnswer(r)
		line, e := answer.Print(a)
		if e != api.OK {
			t.Fatalf("Print(%s): %d", shown(a), e)
		}
		if cuts := slowCut(line); len(cuts) != 1 || cuts[0]+crlf != line {
			t.Fatalf("%q: %q", line, cuts)
		}
	}
}
