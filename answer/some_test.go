package answer_test

import (
	"fmt"
	"math/rand/v2"
	"slices"
	"strings"
	"testing"

	"postbag/answer"
	"postbag/api"
)

const crlf = "\r\n"

// shown is an answer as a text, nil and empty lists alike.
func shown(a api.Answer) string { return strings.ReplaceAll(fmt.Sprintf("%#v", a), "(nil)", "{}") }

func oneOf[T any](r *rand.Rand, list ...T) T { return list[r.IntN(len(list))] }

func times(n int, s string) string { return strings.Repeat(s, n) }

func none() api.Value { return api.Value{} }

func num(n int) api.Value { return api.Value{Kind: api.ValueNumber, Num: n} }

func atom(s string) api.Value { return api.Value{Kind: api.ValueAtom, Text: s} }

func str(s string) api.Value { return api.Value{Kind: api.ValueString, Text: s} }

func list(kids ...api.Value) api.Value { return api.Value{Kind: api.ValueList, Kids: kids} }

func atoms(texts ...string) api.Value {
	var kids []api.Value
	for _, s := range texts {
		kids = append(kids, atom(s))
	}
	return list(kids...)
}

// nested is so many lists one in the other, with a value in the innermost.
func nested(n int, kids ...api.Value) api.Value {
	v := list(kids...)
	for range n - 1 {
		v = list(v)
	}
	return v
}

func uid(n int, kids ...api.Twig) api.Twig { return api.Twig{Uid: n, Kids: kids} }

// chain is so many twigs one in the other.
func chain(n int) api.Twig {
	t := uid(n)
	for i := n - 1; i > 0; i-- {
		t = uid(i, t)
	}
	return t
}

func ok(text string) api.Answer {
	return api.Answer{Kind: api.AnswerState, Outcome: api.OutOk, Text: text}
}

func coded(code int, args ...api.Value) api.Answer {
	return api.Answer{Kind: api.AnswerState, Outcome: api.OutOk, Code: code, Args: args, Text: "x"}
}

func fetch(data ...api.Datum) api.Answer {
	return api.Answer{Kind: api.AnswerFetch, Num: 1, Data: data}
}

func named(name string, v api.Value) api.Answer { return fetch(api.Datum{Name: name, Value: v}) }

func valued(v api.Value) api.Answer { return named("X", v) }

func threads(twigs ...api.Twig) api.Answer {
	return api.Answer{Kind: api.AnswerThread, Twigs: twigs}
}

func status(name string, pairs ...api.Value) api.Answer {
	return api.Answer{Kind: api.AnswerStatus, Name: name, Pairs: pairs}
}

func esearch(pairs ...api.Value) api.Answer {
	return api.Answer{Kind: api.AnswerEsearch, Tag: "a1", Pairs: pairs}
}

func bad(line string) api.Answer { return api.Answer{Kind: api.AnswerBad, Text: line} }

// prints holds Print to a line, and the reader to the answer.
func prints(t *testing.T, a api.Answer, line string) {
	t.Helper()
	got, e := answer.Print(a)
	if got != line+crlf || e != api.OK {
		t.Errorf("Print(%.300s): %.200q, %d, not %.200q", shown(a), got, e, line)
		return
	}
	tells(t, got, a)
}

func refuses(t *testing.T, answers ...api.Answer) {
	t.Helper()
	for _, a := range answers {
		if line, e := answer.Print(a); line != "" || e != api.ErrAnswer {
			t.Errorf("Print(%.300s): %.200q, %d", shown(a), line, e)
		}
	}
}

// tells holds a reader to what it tells of all that it is fed at once.
func tells(t *testing.T, fed string, want ...api.Answer) {
	t.Helper()
	r := answer.New()
	r.Feed(fed)
	if got := told(r); !areSame(got, want) {
		t.Errorf("%.200q: %.400s, not %.400s", fed, allShown(got), allShown(want))
	}
}

// areBad holds a reader to AnswerBad of each of these lines.
func areBad(t *testing.T, lines ...string) {
	t.Helper()
	for _, line := range lines {
		tells(t, line+crlf, bad(line))
	}
}

func told(r *answer.Reader) []api.Answer {
	var list []api.Answer
	for a, is := r.Next(); is; a, is = r.Next() {
		list = append(list, a)
	}
	if a, is := r.Next(); is || shown(a) != shown(api.Answer{}) {
		panic("a reader tells more, or something beside false")
	}
	return list
}

func allShown(answers []api.Answer) string {
	var list []string
	for _, a := range answers {
		list = append(list, fmt.Sprintf("%.1000s", shown(a)))
	}
	return strings.Join(list, "; ")
}

func areSame(a, b []api.Answer) bool {
	return slices.EqualFunc(a, b, func(a, b api.Answer) bool { return shown(a) == shown(b) })
}

// cut is a text in pieces of any sizes up to a greatest one, now and then an empty piece.
func cut(r *rand.Rand, s string, most int) []string {
	var pieces []string
	for s != "" {
		n := min(len(s), r.IntN(most+1))
		pieces = append(pieces, s[:n])
		s = s[n:]
	}
	return pieces
}
