package search

import (
	"strconv"

	"postbag/api"
	"postbag/lex"
	"postbag/moment"
	"postbag/span"
)

func atom(text string) api.Word { return api.Word{Kind: api.WordAtom, Text: text} }

func isAtom(w api.Word) bool { return w.Kind == api.WordAtom }

func isText(w api.Word) bool {
	isSent := w.Kind == api.WordQuoted || w.Kind == api.WordLiteral
	return len(w.Text) <= api.MaxLiteral && (isSent || isAtom(w) && lex.Is(lex.Astring, w.Text))
}

func wordOf(text string) api.Word {
	for i := range len(text) {
		if c := text[i]; c == 0 || c == '\n' || c == '\r' || c > 127 {
			return api.Word{Kind: api.WordLiteral, Text: text}
		}
	}
	return api.Word{Kind: api.WordQuoted, Text: text}
}

func takeText(k *api.Key, w api.Word) bool {
	k.Text = w.Text
	return isText(w)
}

func textWord(k *api.Key) api.Word { return wordOf(k.Text) }

func takeField(k *api.Key, w api.Word) bool {
	k.Field = w.Text
	return isText(w)
}

func fieldWord(k *api.Key) api.Word { return wordOf(k.Field) }

func takeKeyword(k *api.Key, w api.Word) bool {
	k.Text = w.Text
	return isAtom(w) && lex.Is(lex.Keyword, w.Text)
}

func keywordWord(k *api.Key) api.Word { return atom(k.Text) }

func takeDay(k *api.Key, w api.Word) bool {
	day, e := moment.ReadDay(w.Text)
	k.Day = day
	return (isAtom(w) || w.Kind == api.WordQuoted) && e == api.OK
}

// dayWord is an empty atom, which takeDay refuses, of what is no day; so is setWord of what is no set.
func dayWord(k *api.Key) api.Word {
	text, _ := moment.PrintDay(k.Day)
	return atom(text)
}

func takeNumber(k *api.Key, w api.Word) bool {
	n, e := lex.Number(w.Text, api.MaxNumber)
	k.Num = n
	return isAtom(w) && e == api.OK
}

func numberWord(k *api.Key) api.Word { return atom(strconv.Itoa(k.Num)) }

func takeSet(k *api.Key, w api.Word) bool {
	set, e := span.Parse(w.Text)
	k.Set = set
	return isAtom(w) && e == api.OK
}

func setWord(k *api.Key) api.Word {
	text, _ := span.Print(k.Set)
	return atom(text)
}
