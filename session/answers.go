package session

import (
	"strconv"

	"postbag/api"
	"postbag/span"
)

// The flags that are spoken of by name, and the two signs that are none.
const (
	deletedFlag = `\Deleted`
	seenFlag    = `\Seen`
	recentSign  = `\Recent`
	moreSign    = `\*` // further keywords can be kept
)

func capabilities() []string {
	return []string{
		"IMAP4rev1", "LITERAL+", "UIDPLUS", "UNSELECT", "MOVE", "IDLE", "NAMESPACE", "ENABLE", condstore,
		"SORT", "THREAD=ORDEREDSUBJECT", "THREAD=REFERENCES", "ESEARCH",
	}
}

func systemFlags() []string {
	return []string{`\Answered`, deletedFlag, `\Draft`, `\Flagged`, seenFlag}
}

func answers(list ...api.Answer) []api.Answer { return list }

func ok(code int, text string, args ...api.Value) api.Answer {
	return api.Answer{Kind: api.AnswerState, Outcome: api.OutOk, Code: code, Args: args, Text: text}
}

// bad has no tag where none could be read.
func bad(tag, text string) api.Answer {
	return api.Answer{Kind: api.AnswerState, Tag: tag, Outcome: api.OutBad, Text: text}
}

func bye(text string) api.Answer {
	return api.Answer{Kind: api.AnswerState, Outcome: api.OutBye, Text: text}
}

func goOn(text string) api.Answer { return api.Answer{Kind: api.AnswerContinue, Text: text} }

// counted is EXISTS, RECENT or EXPUNGE.
func counted(kind, num int) api.Answer { return api.Answer{Kind: kind, Num: num} }

func fetched(num int, data ...api.Datum) api.Answer {
	return api.Answer{Kind: api.AnswerFetch, Num: num, Data: data}
}

func number(n int) api.Value { return api.Value{Kind: api.ValueNumber, Num: n} }

func atom(text string) api.Value { return api.Value{Kind: api.ValueAtom, Text: text} }

func text(s string) api.Value { return api.Value{Kind: api.ValueString, Text: s} }

func list(values ...api.Value) api.Value { return api.Value{Kind: api.ValueList, Kids: values} }

func atoms(texts ...string) []api.Value {
	var out []api.Value
	for _, one := range texts {
		out = append(out, atom(one))
	}
	return out
}

// set is the shortest set of some numbers, as a code's argument.
func set(numbers ...int) api.Value {
	least, _ := span.Print(span.Least(numbers))
	return atom(least)
}

func uidDatum(uid int) api.Datum { return api.Datum{Name: "UID", Value: number(uid)} }

func flagsDatum(flags []string, recent bool) api.Datum {
	signs := atoms(flags...)
	if recent {
		signs = append(signs, atom(recentSign))
	}
	return api.Datum{Name: "FLAGS", Value: list(signs...)}
}

func modseqDatum(modseq int) api.Datum {
	return api.Datum{Name: "MODSEQ", Value: list(number(modseq))}
}

// since is the number of UNCHANGEDSINCE or CHANGEDSINCE, -1 if it was not there.
func since(asked api.Text) int {
	if !asked.Is {
		return -1
	}
	n, _ := strconv.Atoi(asked.S)
	return n
}
