package command_test

import (
	"math/rand/v2"
	"slices"
	"strconv"
	"strings"
	"testing"

	"postbag/api"
	"postbag/command"
	"postbag/lex"
)

// Commands by chance: each is one that Read tells of some line.

func someText(r *rand.Rand) string {
	switch r.IntN(8) {
	case 0:
		return ""
	case 1:
		return oneOf(r, "nil", "NIL", "INBOX", "(", "{3}", "{3+}", `"`, `\`, `a "b" \ c`, "done", "x {4+}", "UID")
	case 2:
		return oneOf(r, "\r\n", "x\r\ny NOOP\r\n", "\xff\xfe", "{5+}\r\n", "ä", "\r", "\n", "\x7f", "\x01")
	case 3:
		return times(r.IntN(200), oneOf(r, "x", "\r\n", "\"", " "))
	}
	return someAtom(r)
}

func someAtom(r *rand.Rand) string {
	const letters = "abcXYZ019+-.,:;<>=?@!#$&'/^_`|~"
	var s strings.Builder
	for range 1 + r.IntN(6) {
		s.WriteByte(letters[r.IntN(len(letters))])
	}
	return s.String()
}

func someTag(r *rand.Rand) string {
	return oneOf(r, "a", "b7", "UID", times(api.MaxTag, "t"), strings.ReplaceAll(someAtom(r), "+", "p"))
}

func someNumber(r *rand.Rand) int {
	return oneOf(r, 1, 2, 3, 10, 1+r.IntN(1000), api.MaxNumber-1, api.MaxNumber)
}

func someSet(r *rand.Rand) []api.Range {
	var set []api.Range
	for range oneOf(r, 1, 1, 1, 2, 3, api.MaxRanges) {
		one := api.Range{From: someNumber(r), To: someNumber(r)}
		switch r.IntN(4) {
		case 0:
			one.To = one.From
		case 1:
			one.To = 0
		case 2:
			one.From = 0
		}
		set = append(set, one)
	}
	return set
}

func someFlags(r *rand.Rand) []string {
	var flags []string
	for range oneOf(r, 0, 0, 1, 2, 3, api.MaxFlags) {
		flags = append(flags, oneOf(r, `\Seen`, `\seen`, `\ANSWERED`, `\Deleted`, `\Draft`, `\Flagged`, "k", "K", "Work", "nil", times(api.MaxKeyword, "w"), someAtom(r)))
	}
	return flags
}

func someSubset(r *rand.Rand, most int) []int {
	list := r.Perm(most)[:r.IntN(most+1)]
	for i := range list {
		list[i]++
	}
	return list
}

func someKey(r *rand.Rand, deep int) api.Key {
	text := oneOf(r, someText(r), "joe", "")
	day := api.Moment{Year: 1 + r.IntN(9999), Month: 1 + r.IntN(12), Day: 1 + r.IntN(28)}
	kinds := 7
	if deep > 0 {
		kinds = 10
	}
	switch r.IntN(kinds) {
	case 0:
		return api.Key{Kind: oneOf(r, api.KeyAll, api.KeyNew, api.KeyOld)}
	case 1:
		return api.Key{Kind: oneOf(r, api.KeySet, api.KeyUid), Set: someSet(r)}
	case 2:
		return api.Key{Kind: oneOf(r, api.KeyFlag, api.KeyUnflag), Text: oneOf(r, `\Seen`, `\Draft`, "k", "nil")}
	case 3:
		return api.Key{Kind: oneOf(r, api.KeyBcc, api.KeyBody, api.KeyCc, api.KeyFrom, api.KeySubject, api.KeyText, api.KeyTo), Text: text}
	case 4:
		return api.Key{Kind: api.KeyHeader, Field: someText(r), Text: text}
	case 5:
		return api.Key{Kind: oneOf(r, api.KeyBefore, api.KeyOn, api.KeySince, api.KeySentBefore, api.KeySentOn, api.KeySentSince), Day: day}
	case 6:
		return api.Key{Kind: oneOf(r, api.KeyLarger, api.KeySmaller, api.KeyModseq), Num: r.IntN(3) * someNumber(r) / 2}
	case 7:
		return api.Key{Kind: api.KeyNot, Kids: []api.Key{someKey(r, deep-1)}}
	case 8:
		return api.Key{Kind: api.KeyOr, Kids: []api.Key{someKey(r, deep-1), someKey(r, deep-1)}}
	}
	kids := []api.Key{someKey(r, deep-1), someKey(r, deep-1)}
	if r.IntN(2) == 0 {
		kids = append(kids, someKey(r, deep-1))
	}
	return api.Key{Kind: api.KeyAnd, Kids: kids}
}

func someItem(r *rand.Rand) api.Item {
	if r.IntN(2) == 0 {
		return api.Item{Kind: oneOf(r, 1, 2, 3, 4, 5, 6, 7, 9, 10, 11, 12)}
	}
	item := api.Item{Kind: api.ItemSection, Peek: r.IntN(2) == 0, Section: api.Section{Kind: r.IntN(6)}}
	if r.IntN(2) == 0 || item.Section.Kind == api.SectionMime {
		item.Section.Place = oneOf(r, "1", "1.2", "3.2.1", strconv.Itoa(someNumber(r)))
	}
	if item.Section.Kind == api.SectionFields || item.Section.Kind == api.SectionOthers {
		for range 1 + r.IntN(3) {
			item.Section.Names = append(item.Section.Names, someAtom(r))
		}
	}
	if r.IntN(2) == 0 {
		item.Partial, item.From, item.N = true, r.IntN(2)*someNumber(r), someNumber(r)
	}
	return item
}

func someSince(r *rand.Rand) api.Text {
	if r.IntN(2) == 0 {
		return api.Text{}
	}
	return is(strconv.Itoa(r.IntN(2) * someNumber(r)))
}

func someCommand(r *rand.Rand) api.Command {
	c := api.Command{Tag: someTag(r), Verb: 1 + r.IntN(29)}
	switch c.Verb {
	case api.VerbLogin:
		c.User, c.Pass = someText(r), someText(r)
	case api.VerbSelect, api.VerbExamine:
		c.Name, c.Condstore = someText(r), r.IntN(2) == 0
	case api.VerbCreate, api.VerbDelete, api.VerbSubscribe, api.VerbUnsubscribe:
		c.Name = someText(r)
	case api.VerbRename:
		c.Name, c.To = someText(r), someText(r)
	case api.VerbList, api.VerbLsub:
		c.Ref, c.Pattern = someText(r), oneOf(r, "*", "%", "%/*", "nil", someText(r))
	case api.VerbStatus:
		c.Name, c.Status = someText(r), append(someSubset(r, 5), api.StatusModseq)
	case api.VerbAppend:
		c.Name, c.Flags, c.Body = someText(r), someFlags(r), someText(r)
		if r.IntN(2) == 0 {
			c.Dated, c.Date = true, api.Moment{Year: 1 + r.IntN(9999), Month: 1 + r.IntN(12), Day: 1 + r.IntN(28), Hour: r.IntN(24), Minute: r.IntN(60), Second: r.IntN(60), Zone: r.IntN(2879) - 1439}
		}
	case api.VerbEnable:
		for range 1 + r.IntN(3) {
			c.Names = append(c.Names, oneOf(r, "CONDSTORE", someAtom(r)))
		}
	default:
		someWithUid(r, &c)
	}
	return c
}

func someWithUid(r *rand.Rand, c *api.Command) {
	c.Uid = r.IntN(2) == 0
	switch c.Verb {
	case api.VerbSearch:
		if r.IntN(2) == 0 {
			c.Returning, c.Returns = true, someSubset(r, 4)
		}
		if r.IntN(2) == 0 {
			c.Charset = is(someText(r))
		}
		c.Key = someKey(r, 3)
	case api.VerbFetch:
		c.Set, c.Changed = someSet(r), someSince(r)
		for range oneOf(r, 1, 2, 3, api.MaxItems) {
			c.Items = append(c.Items, someItem(r))
		}
	case api.VerbStore:
		c.Set, c.Unchanged, c.Mode, c.Silent, c.Flags = someSet(r), someSince(r), r.IntN(3)-1, r.IntN(2) == 0, someFlags(r)
	case api.VerbCopy, api.VerbMove:
		c.Set, c.Name = someSet(r), someText(r)
	case api.VerbSort:
		for range oneOf(r, 1, 2, api.MaxBys) {
			c.By = append(c.By, api.By{Kind: 1 + r.IntN(7), Reverse: r.IntN(2) == 0})
		}
		c.Charset, c.Key = is(someText(r)), someKey(r, 3)
	case api.VerbThread:
		c.Algorithm, c.Charset, c.Key = 1+r.IntN(2), is(someText(r)), someKey(r, 3)
	case api.VerbExpunge:
		if c.Uid {
			c.Set = someSet(r)
		}
	default:
		c.Uid = false
	}
}

// P14.3, P14.10: commands by chance; Read of what Print writes is the command, whatever is written otherwise.
func TestThereAndBack(t *testing.T) {
	t.Parallel()
	r := rand.New(rand.NewPCG(14, 10))
	verbs := map[int]int{}
	for range 5000 {
		c := someCommand(r)
		form, e := command.Print(c)
		slow, want := slowPrint(c)
		if form != slow || e != want {
			t.Fatalf("Print(%s): %q, %d, not %q, %d", shown(c), form, e, slow, want)
		}
		if e != api.OK {
			continue
		}
		verbs[c.Verb]++
		line, literals := parted(t, form)
		again, e := command.Read(line, literals)
		if e != api.OK || shown(again) != shown(c) {
			t.Fatalf("Read(%q, %q): %s, %d, not %s", line, literals, shown(again), e, shown(c))
		}
		other, literals := otherwise(r, line, literals)
		again, e = command.Read(other, literals)
		if e != api.OK {
			t.Fatalf("Read(%q, %q): %d", other, literals, e)
		}
		if second, e := command.Print(again); e != api.OK || shown(again) == shown(c) && second != form {
			t.Fatalf("Print of %q: %q, %d, not %q", other, second, e, form)
		}
	}
	for verb := 1; verb <= 29; verb++ {
		if verbs[verb] < 25 {
			t.Errorf("verb %d: %d times only", verb, verbs[verb])
		}
	}
}

// otherwise is a line that says the same: its quoted words as literals, its announcements with and without a plus and with a 0 ahead.
func otherwise(r *rand.Rand, line string, literals []string) (string, []string) {
	var others []string
	line = stringForm.ReplaceAllStringFunc(line, func(s string) string {
		var text string
		if s[0] == '{' {
			text, literals = literals[0], literals[1:]
		} else if words, e := lex.Scan(s, nil); e == api.OK && strings.Count(line, s) == 1 && !strings.Contains(line, "-") {
			text = words[0].Text
		} else {
			return s
		}
		others = append(others, text)
		return "{" + oneOf(r, "", "0", "00") + strconv.Itoa(len(text)) + oneOf(r, "", "+") + "}"
	})
	return line, others
}

// P14.1, P14.2, P14.10: lines by chance, most of them a little wrong: they are commands or not as by the other make.
func TestLinesByChance(t *testing.T) {
	t.Parallel()
	r := rand.New(rand.NewPCG(14, 1))
	taken := 0
	for range 12000 {
		f := slowForm{}
		f.command(someCommand(r))
		line, literals := f.line, f.literals
		if r.IntN(3) == 0 {
			line = anyCase(r, line)
		}
		for range oneOf(r, 0, 1, 1, 2) {
			line, literals = mutated(r, line, literals)
		}
		c, e := command.Read(line, literals)
		slow, want := slowRead(line, literals)
		if e != want || shown(c) != shown(slow) {
			t.Fatalf("Read(%q, %q): %s, %d, not %s, %d", line, literals, shown(c), e, shown(slow), want)
		}
		if e == api.OK {
			taken++
		}
		again, e2 := command.Read(line, literals)
		if e2 != e || shown(again) != shown(c) {
			t.Fatalf("Read(%q, %q): once so, once otherwise", line, literals)
		}
	}
	if taken < 3000 {
		t.Errorf("only %d were commands", taken)
	}
}

func anyCase(r *rand.Rand, s string) string {
	b := []byte(s)
	for i := range b {
		if 'A' <= b[i]&^32 && b[i]&^32 <= 'Z' && r.IntN(3) == 0 {
			b[i] ^= 32
		}
	}
	return string(b)
}

func mutated(r *rand.Rand, line string, literals []string) (string, []string) {
	words := strings.SplitAfter(line, " ")
	at, to := r.IntN(len(words)), r.IntN(len(words))
	place := r.IntN(len(line) + 1)
	switch r.IntN(10) {
	case 0:
		words = slices.Delete(words, at, at+1)
	case 1:
		words = slices.Insert(words, at, words[to])
	case 2:
		words[at], words[to] = words[to], words[at]
	case 3:
		words[at] = strings.TrimSuffix(words[at], " ")
	case 4:
		return line[:place] + oneOf(r, " ", "(", ")", "[", "]", "\"", "x", "0", "1", ".", "<", "*", "%", "\\", "{0}", "()", "[]", "\x00", "\r", "é", "+", ",", ":") + line[place:], literals
	case 5:
		if place < len(line) {
			return line[:place] + line[place+1:], literals
		}
	case 6:
		words = slices.Insert(words, at, oneOf(r, "x ", "() ", "(x) ", "UID ", "NIL ", "1 ", "FLAGS ", "RETURN () ", "CHARSET x ", "(CONDSTORE) ", "(CHANGEDSINCE 5) ", "(UNCHANGEDSINCE 5) ", "ALL ", "BODY[] ", "\"x\" "))
	case 7:
		if len(literals) > 0 {
			literals = slices.Clone(literals)
			i := r.IntN(len(literals))
			literals[i] = strings.Map(func(c rune) rune { return c % 128 }, literals[i])
		}
	case 8:
		if len(literals) > 0 && r.IntN(3) == 0 {
			return line, literals[1:]
		}
	case 9:
		return strings.TrimSuffix(line, ")"), literals
	}
	return strings.Join(words, ""), literals
}
