package search

import (
	"slices"
	"strings"

	"postbag/api"
)

const (
	seen   = `\Seen`
	recent = `\Recent`
)

func rules() []rule {
	return slices.Concat(treeRules(), flagRules(), textRules(), dayRules(), numberRules(), []rule{setRule()})
}

func treeRules() []rule {
	return []rule{
		{kind: api.KeyAnd, kids: 2, holds: allHold},
		{name: "NOT", kind: api.KeyNot, kids: 1, holds: lacksKid},
		{name: "OR", kind: api.KeyOr, kids: 2, holds: someHold},
		{name: "ALL", kind: api.KeyAll, holds: always},
	}
}

// setRule is the rule of a set that stands alone: with no name to be found by, it is what every other word is taken for.
func setRule() rule {
	return rule{kind: api.KeySet, args: []argument{{takeSet, setWord}}, holds: hasSeq}
}

func flagRules() []rule {
	keyword := []argument{{takeKeyword, keywordWord}}
	list := []rule{
		{name: "KEYWORD", kind: api.KeyFlag, args: keyword, holds: hasFlag},
		{name: "UNKEYWORD", kind: api.KeyUnflag, args: keyword, holds: lacksFlag},
		{name: "RECENT", kind: api.KeyFlag, flag: recent, holds: isRecent},
		{name: "NEW", kind: api.KeyNew, holds: isNew},
		{name: "OLD", kind: api.KeyOld, holds: isOld},
	}
	for _, flag := range [...]string{`\Answered`, `\Deleted`, `\Draft`, `\Flagged`, seen} {
		name := strings.ToUpper(flag[1:])
		list = append(list,
			rule{name: name, kind: api.KeyFlag, flag: flag, holds: hasFlag},
			rule{name: "UN" + name, kind: api.KeyUnflag, flag: flag, holds: lacksFlag})
	}
	return list
}

func textRules() []rule {
	field, text := argument{takeField, fieldWord}, argument{takeText, textWord}
	return []rule{
		{name: "BCC", kind: api.KeyBcc, args: []argument{text}, holds: inField("Bcc")},
		{name: "BODY", kind: api.KeyBody, args: []argument{text}, holds: inBody},
		{name: "CC", kind: api.KeyCc, args: []argument{text}, holds: inField("Cc")},
		{name: "FROM", kind: api.KeyFrom, args: []argument{text}, holds: inField("From")},
		{name: "HEADER", kind: api.KeyHeader, args: []argument{field, text}, holds: inHeader},
		{name: "SUBJECT", kind: api.KeySubject, args: []argument{text}, holds: inField("Subject")},
		{name: "TEXT", kind: api.KeyText, args: []argument{text}, holds: inWhole},
		{name: "TO", kind: api.KeyTo, args: []argument{text}, holds: inField("To")},
	}
}

func dayRules() []rule {
	day := []argument{{takeDay, dayWord}}
	return []rule{
		{name: "BEFORE", kind: api.KeyBefore, args: day, holds: ofDay(came, isAhead)},
		{name: "ON", kind: api.KeyOn, args: day, holds: ofDay(came, isEqual)},
		{name: "SINCE", kind: api.KeySince, args: day, holds: ofDay(came, isNotAhead)},
		{name: "SENTBEFORE", kind: api.KeySentBefore, args: day, holds: ofDay(sent, isAhead)},
		{name: "SENTON", kind: api.KeySentOn, args: day, holds: ofDay(sent, isEqual)},
		{name: "SENTSINCE", kind: api.KeySentSince, args: day, holds: ofDay(sent, isNotAhead)},
	}
}

func numberRules() []rule {
	number, set := []argument{{takeNumber, numberWord}}, []argument{{takeSet, setWord}}
	return []rule{
		{name: "UID", kind: api.KeyUid, args: set, holds: hasUid},
		{name: "LARGER", kind: api.KeyLarger, args: number, holds: isLarger},
		{name: "SMALLER", kind: api.KeySmaller, args: number, holds: isSmaller},
		{name: "MODSEQ", kind: api.KeyModseq, args: number, holds: isTouched},
	}
}
