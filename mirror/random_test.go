package mirror_test

import (
	"fmt"
	"math/rand/v2"
	"reflect"
	"slices"
	"testing"

	"postbag/api"
	"postbag/mirror"
)

// Random things: as a rule such as fit to how a mirror stands, else of any kind.

func someFlags(r *rand.Rand) []string {
	var out []string
	for range r.IntN(4) {
		out = append(out, oneOf(r, `\Seen`, `\Deleted`, `\Recent`, `\RECENT`, "k", "K", "", "a b", "\xff"))
	}
	return out
}

func someSet(r *rand.Rand) []api.Range {
	var out []api.Range
	for range r.IntN(3) {
		p := api.Range{From: 1 + r.IntN(8), To: 1 + r.IntN(8)}
		if r.IntN(2) == 0 {
			p.To = p.From
		}
		if r.IntN(12) == 0 {
			p.To = oneOf(r, edges...)
		}
		if r.IntN(12) == 0 {
			p.From = oneOf(r, edges...)
		}
		out = append(out, p)
	}
	return out
}

func someCommand(r *rand.Rand, isSelected bool) api.Command {
	c := api.Command{Tag: oneOf(r, "a", "b", "c", "A"), Uid: r.IntN(2) == 0, Silent: r.IntN(3) > 0, Set: someSet(r)}
	c.Verb = oneOf(r, api.VerbStore, api.VerbStore, api.VerbStore, api.VerbFetch, api.VerbNoop, api.VerbNoop, api.VerbNoop, api.VerbIdle, api.VerbMove, 1+r.IntN(29))
	if !isSelected && r.IntN(3) > 0 {
		c.Verb = oneOf(r, opening...)
	}
	if r.IntN(20) == 0 {
		c.Tag = ""
	}
	if r.IntN(20) == 0 {
		c.Verb = oneOf(r, edges...)
	}
	return c
}

func someValue(r *rand.Rand) api.Value {
	return oneOf(r, number(r.IntN(9)), number(oneOf(r, edges...)), flagList(someFlags(r)...), values(number(r.IntN(30))), values(number(oneOf(r, edges...))), values(), atom("x"), api.Value{}, values(atom("k"), number(1)), values(values()))
}

// someUid is as a rule one that a row can have.
func someUid(r *rand.Rand, s api.MirrorSight, n int) int {
	if n < 1 || n > len(s.Uids) || r.IntN(6) == 0 {
		return 1 + r.IntN(12)
	}
	if uid := s.Uids[n-1]; uid > 0 {
		return uid
	}
	low, high := slices.Max(append(slices.Clone(s.Uids[:n]), 0)), 0
	for _, uid := range s.Uids[n:] {
		if uid > 0 {
			high = uid
			break
		}
	}
	if high == 0 {
		high = low + 5
	}
	return low + r.IntN(high-low+1)
}

func someData(r *rand.Rand, s api.MirrorSight, n int) []api.Datum {
	var out []api.Datum
	for range r.IntN(4) {
		switch r.IntN(9) {
		case 0, 1, 2, 3:
			out = append(out, datum("UID", number(someUid(r, s, n))))
		case 4, 5, 6:
			out = append(out, datum("FLAGS", flagList(someFlags(r)...)))
		case 7:
			out = append(out, datum("MODSEQ", values(number(r.IntN(20)))))
		default:
			out = append(out, datum(oneOf(r, "UID", "FLAGS", "MODSEQ", "uid", "BODY[]", ""), someValue(r)))
		}
	}
	return out
}

// someAnswer is one for a mirror that stands so, with these tags that wait.
func someAnswer(r *rand.Rand, s api.MirrorSight, tags []string) api.Answer {
	rows := len(s.Uids)
	a := api.Answer{Num: r.IntN(rows + 2)}
	if r.IntN(15) == 0 {
		a.Num = oneOf(r, edges[:len(edges)-7]...)
	}
	kind := r.IntN(20)
	if s.Selected && kind < 4 {
		kind += 14
	}
	switch kind {
	case 0, 1, 2, 3, 4, 5:
		a.Kind, a.Outcome = api.AnswerState, oneOf(r, api.OutOk, api.OutOk, api.OutOk, api.OutOk, api.OutOk, api.OutNo, api.OutBad)
		a.Tag = oneOf(r, append(tags, "a", "b", "z")[:1+r.IntN(len(tags)+1)]...)
		if len(tags) > 0 && r.IntN(4) > 0 {
			a.Tag = tags[0]
		}
	case 6, 7:
		a.Kind, a.Outcome = api.AnswerState, oneOf(r, api.OutOk, api.OutOk, api.OutOk, api.OutOk, api.OutOk, api.OutOk, api.OutNo, api.OutBad, r.IntN(7)-1)
		a.Code, a.Args = oneOf(r, api.CodeValidity, api.CodeNext, api.CodeModseq, api.CodeUnseen, 0), []api.Value{number(r.IntN(3))}
		if r.IntN(5) == 0 {
			a.Args = []api.Value{someValue(r), someValue(r)}[:r.IntN(3)]
		}
	case 8, 9, 10:
		a.Kind = api.AnswerExists
		if r.IntN(4) > 0 {
			a.Num = rows + r.IntN(max(3, 8-rows))
		}
	case 11, 12:
		a.Kind = api.AnswerExpunge
	case 13:
		a.Kind = oneOf(r, api.AnswerRecent, api.AnswerFlags, api.AnswerContinue, api.AnswerBad, r.IntN(20))
	default:
		a.Kind, a.Data = api.AnswerFetch, someData(r, s, a.Num)
	}
	return a
}

func someSight(r *rand.Rand) api.MirrorSight {
	s := api.MirrorSight{Selected: r.IntN(2) == 0, Validity: r.IntN(3), Highest: r.IntN(5) - 1, Next: r.IntN(3)}
	for range r.IntN(9) {
		s.Uids = append(s.Uids, r.IntN(12))
	}
	for range r.IntN(9) {
		s.Flags = append(s.Flags, someFlags(r))
	}
	for range r.IntN(12) {
		s.Known = append(s.Known, r.IntN(4) > 0)
	}
	return s
}

// wantRising is P19.10: uids that are known rise.
func wantRising(t *testing.T, s api.MirrorSight) {
	t.Helper()
	last := 0
	for _, uid := range s.Uids {
		if uid != 0 && uid <= last {
			t.Errorf("P19.10: %v", s.Uids)
		}
		last = max(last, uid)
	}
}

// wantSteady is P19.10: rows change in number by EXISTS and EXPUNGE alone, as long as a picture stands.
func wantSteady(t *testing.T, was, is api.MirrorSight, a api.Answer) {
	t.Helper()
	ends := a.Kind == api.AnswerState && (a.Tag != "" || a.Outcome == api.OutBye)
	if !was.Selected || !is.Selected || ends {
		return
	}
	grown := len(is.Uids) - len(was.Uids)
	if grown > 0 && a.Kind != api.AnswerExists || grown < 0 && (a.Kind != api.AnswerExpunge || grown < -1) {
		t.Errorf("P19.10: behind %+v %d rows, not %d", a, len(is.Uids), len(was.Uids))
	}
}

// P19.1 to P19.6, P19.9, P19.10: random commands, answers and sights, held against a mirror of another make, and against one that hears nothing but what can follow.
func TestAgainstSlow(t *testing.T) {
	t.Parallel()
	r := rand.New(rand.NewPCG(19, 1))
	counts := map[string]int{}
	for range 2500 {
		m, clean, other := mirror.New(), mirror.New(), &slow{}
		var tags []string
		var heard []string
		for range 60 {
			was := m.Sight()
			switch n := r.IntN(12); {
			case n == 0 && r.IntN(2) == 0:
				s := someSight(r)
				heard = append(heard, fmt.Sprintf("Resync(%+v)", s))
				got, want := m.Resync(s), other.resync(s)
				clean.Resync(s)
				if !same(got, want) {
					t.Errorf("P19.6: %+v, not %+v", got, want)
				}
				counts[fmt.Sprint("resyncs of ", len(got))]++
			case n <= 3:
				c := someCommand(r, was.Selected)
				heard = append(heard, fmt.Sprintf("Ask(%s %d %v %v %v)", c.Tag, c.Verb, c.Uid, c.Silent, c.Set))
				got, want := m.Ask(c), other.ask(c)
				if got != want {
					t.Errorf("P19.1: %d, not %d", got, want)
				}
				if got == api.OK {
					clean.Ask(c)
					tags = append(tags, c.Tag)
				}
			default:
				a := someAnswer(r, was, tags)
				heard = append(heard, fmt.Sprintf("Hear(%+v)", a))
				got, want := m.Hear(a), other.hear(a)
				if got != want {
					t.Errorf("P19.2: %d, not %d", got, want)
				}
				if got == api.OK {
					clean.Hear(a)
					wantSteady(t, was, m.Sight(), a)
					counts[fmt.Sprint("heard ", a.Kind)]++
				} else {
					counts["refused"]++
				}
				if got == api.OK && a.Kind == api.AnswerState && a.Tag != "" {
					tags = tags[1:]
				}
			}
			s := m.Sight()
			if want := other.sight(); !same(s, want) {
				t.Errorf("P19.5: %s, not %s", shown(t, s), shown(t, want))
			}
			if !reflect.DeepEqual(m, clean) {
				t.Errorf("P19.9: %+v, not %+v", m, clean)
			}
			wantRising(t, s)
			if s.Selected {
				counts["selected"]++
				counts["rows"] += len(s.Uids)
				for i := range s.Uids {
					if s.Uids[i] > 0 && s.Known[i] {
						counts["known"]++
					}
				}
			}
			if t.Failed() {
				t.Fatalf("%q", heard)
			}
		}
	}
	t.Log(counts)
	for what, least := range map[string]int{"refused": 10000, "heard 1": 5000, "heard 11": 2000, "heard 13": 500, "heard 14": 5000, "selected": 20000, "rows": 100000, "known": 20000, "resyncs of 1": 500, "resyncs of 2": 200} {
		if counts[what] < least {
			t.Errorf("%d %s are too few to say something", counts[what], what)
		}
	}
}

// W2: two mirrors that are told the same say the same, though one of them is asked how it stands again and again.
func TestTwice(t *testing.T) {
	t.Parallel()
	play := func(seed uint64, isAsked bool) []string {
		r := rand.New(rand.NewPCG(19, seed))
		m, other := mirror.New(), &slow{}
		var out []string
		var tags []string
		for range 80 {
			s := other.sight()
			if isAsked {
				m.Sight()
			}
			switch r.IntN(6) {
			case 0:
				was := someSight(r)
				other.resync(was)
				out = append(out, fmt.Sprintf("%+v", m.Resync(was)))
			case 1:
				c := someCommand(r, s.Selected)
				if other.ask(c) == api.OK {
					tags = append(tags, c.Tag)
				}
				out = append(out, fmt.Sprint(m.Ask(c)))
			default:
				a := someAnswer(r, s, tags)
				if other.hear(a) == api.OK && a.Kind == api.AnswerState && a.Tag != "" {
					tags = tags[1:]
				}
				out = append(out, fmt.Sprint(m.Hear(a)))
			}
		}
		return append(out, fmt.Sprintf("%+v", m.Sight()))
	}
	for seed := range uint64(200) {
		if one, two := play(seed, false), play(seed, true); !slices.Equal(one, two) {
			t.Fatalf("W2: the seed %d:\n%q\n%q", seed, one, two)
		}
	}
}
