package answer_test

import (
	"math"
	"strconv"
	"strings"
	"testing"

	"postbag/api"
)

const most = api.MaxNumber

// P15.1, P15.6: every kind, with the least and the most that it may have.
func TestPrint(t *testing.T) {
	for _, c := range []struct {
		a    api.Answer
		line string
	}{
		{ok("x"), "* OK x"},
		{api.Answer{Kind: api.AnswerState, Tag: "a1", Outcome: api.OutOk, Code: api.CodeReadWrite, Text: "done"}, "a1 OK [READ-WRITE] done"},
		{api.Answer{Kind: api.AnswerState, Tag: "a1", Outcome: api.OutNo, Text: "no"}, "a1 NO no"},
		{api.Answer{Kind: api.AnswerState, Tag: "OK", Outcome: api.OutBad, Text: "OK [x] y"}, "OK BAD OK [x] y"},
		{api.Answer{Kind: api.AnswerState, Outcome: api.OutNo, Text: "no"}, "* NO no"},
		{api.Answer{Kind: api.AnswerState, Outcome: api.OutBad, Text: "bad"}, "* BAD bad"},
		{api.Answer{Kind: api.AnswerState, Outcome: api.OutBye, Text: "bye"}, "* BYE bye"},
		{api.Answer{Kind: api.AnswerState, Outcome: api.OutBye, Code: api.CodeNone, Text: "bye"}, "* BYE [NONEXISTENT] bye"},
		{api.Answer{Kind: api.AnswerContinue, Text: "go ahead"}, "+ go ahead"},
		{api.Answer{Kind: api.AnswerContinue, Text: "+"}, "+ +"},
		{api.Answer{Kind: api.AnswerCapability, Flags: []string{"IMAP4rev1"}}, "* CAPABILITY IMAP4rev1"},
		{api.Answer{Kind: api.AnswerCapability, Flags: []string{"IMAP4rev1", "LITERAL+", "FETCH"}}, "* CAPABILITY IMAP4rev1 LITERAL+ FETCH"},
		{api.Answer{Kind: api.AnswerEnabled}, "* ENABLED"},
		{api.Answer{Kind: api.AnswerEnabled, Flags: []string{"CONDSTORE"}}, "* ENABLED CONDSTORE"},
		{api.Answer{Kind: api.AnswerEnabled, Flags: []string{"EXISTS", "FETCH"}}, "* ENABLED EXISTS FETCH"},
		{api.Answer{Kind: api.AnswerFlags}, "* FLAGS ()"},
		{api.Answer{Kind: api.AnswerFlags, Flags: []string{`\Seen`, "Work", `\*`}}, `* FLAGS (\Seen Work \*)`},
		{api.Answer{Kind: api.AnswerList}, `* LIST () "/" ""`},
		{api.Answer{Kind: api.AnswerList, Flags: []string{`\HasNoChildren`}, Name: "a b"}, `* LIST (\HasNoChildren) "/" "a b"`},
		{api.Answer{Kind: api.AnswerList, Flags: []string{`\Noselect`, "5", "nil"}, Name: "INBOX"}, `* LIST (\Noselect 5 nil) "/" INBOX`},
		{api.Answer{Kind: api.AnswerLsub, Name: "INBOX"}, `* LSUB () "/" INBOX`},
		{api.Answer{Kind: api.AnswerLsub, Flags: []string{`\Noselect`}, Name: "x"}, `* LSUB (\Noselect) "/" x`},
		{api.Answer{Kind: api.AnswerSearch}, "* SEARCH"},
		{api.Answer{Kind: api.AnswerSearch, Nums: []int{2, 5}, Modseq: 9}, "* SEARCH 2 5 (MODSEQ 9)"},
		{api.Answer{Kind: api.AnswerSearch, Modseq: 1}, "* SEARCH (MODSEQ 1)"},
		{api.Answer{Kind: api.AnswerSearch, Nums: []int{5, 1, 5, most}, Modseq: most}, "* SEARCH 5 1 5 4294967295 (MODSEQ 4294967295)"},
		{api.Answer{Kind: api.AnswerSort}, "* SORT"},
		{api.Answer{Kind: api.AnswerSort, Nums: []int{3, 1, 2}}, "* SORT 3 1 2"},
		{api.Answer{Kind: api.AnswerSort, Nums: []int{1}, Modseq: 7}, "* SORT 1 (MODSEQ 7)"},
		{threads(), "* THREAD"},
		{threads(uid(1, uid(2)), uid(0, uid(3), uid(4))), "* THREAD (1 2)((3)(4))"},
		{status("INBOX", atom("MESSAGES"), num(3), atom("UIDNEXT"), num(4)), "* STATUS INBOX (MESSAGES 3 UIDNEXT 4)"},
		{status(""), `* STATUS "" ()`},
		{status("a b", atom("x"), num(most)), `* STATUS "a b" (x 4294967295)`},
		{api.Answer{Kind: api.AnswerExists}, "* 0 EXISTS"},
		{api.Answer{Kind: api.AnswerExists, Num: most}, "* 4294967295 EXISTS"},
		{api.Answer{Kind: api.AnswerRecent}, "* 0 RECENT"},
		{api.Answer{Kind: api.AnswerRecent, Num: 10}, "* 10 RECENT"},
		{api.Answer{Kind: api.AnswerExpunge, Num: 1}, "* 1 EXPUNGE"},
		{api.Answer{Kind: api.AnswerExpunge, Num: most}, "* 4294967295 EXPUNGE"},
		{named("BODY[HEADER.FIELDS (SUBJECT)]", none()), "* 1 FETCH (BODY[HEADER.FIELDS (SUBJECT)] NIL)"},
		{fetch(api.Datum{Name: "UID", Value: num(5)}, api.Datum{Name: "FLAGS", Value: list()}, api.Datum{Name: "BODY[]<0>", Value: str("a\r\nb")}), "* 1 FETCH (UID 5 FLAGS () BODY[]<0> {4}\r\na\r\nb)"},
		{api.Answer{Kind: api.AnswerFetch, Num: most, Data: []api.Datum{{Name: "MODSEQ", Value: list(num(7))}}}, "* 4294967295 FETCH (MODSEQ (7))"},
		{fetch(api.Datum{Name: "UID", Value: num(5)}, api.Datum{Name: "UID", Value: num(6)}), "* 1 FETCH (UID 5 UID 6)"},
		{esearch(), `* ESEARCH (TAG "a1")`},
		{api.Answer{Kind: api.AnswerEsearch, Tag: "a1", Uid: true, Pairs: []api.Value{atom("MIN"), num(1)}, Set: []api.Range{{From: 1, To: 3}}, Modseq: 8}, `* ESEARCH (TAG "a1") UID MIN 1 ALL 1:3 MODSEQ 8`},
		{api.Answer{Kind: api.AnswerEsearch, Tag: times(32, "t"), Modseq: most}, `* ESEARCH (TAG "` + times(32, "t") + `") MODSEQ 4294967295`},
		{api.Answer{Kind: api.AnswerEsearch, Tag: "a", Uid: true}, `* ESEARCH (TAG "a") UID`},
		{api.Answer{Kind: api.AnswerEsearch, Tag: "a", Set: []api.Range{{From: 9, To: 2}, {From: 4, To: 4}}}, `* ESEARCH (TAG "a") ALL 9:2,4`},
		{esearch(atom("MIN"), num(0), atom("MAX"), num(most), atom("COUNT"), num(1)), `* ESEARCH (TAG "a1") MIN 0 MAX 4294967295 COUNT 1`},
		{api.Answer{Kind: api.AnswerNamespace}, `* NAMESPACE (("" "/")) NIL NIL`},
	} {
		prints(t, c.a, c.line)
	}
}

// P15.1 (W5): empty lists are as good as none, in fields that a kind does not use, too.
func TestEmptyLists(t *testing.T) {
	empty := api.Answer{Kind: api.AnswerExists, Args: []api.Value{}, Nums: []int{}, Flags: []string{}, Data: []api.Datum{}, Twigs: []api.Twig{}, Set: []api.Range{}, Pairs: []api.Value{}}
	prints(t, empty, "* 0 EXISTS")
	prints(t, fetch(api.Datum{Name: "X", Value: api.Value{Kids: []api.Value{}}}), "* 1 FETCH (X NIL)")
	prints(t, threads(api.Twig{Uid: 3, Kids: []api.Twig{}}), "* THREAD (3)")
}

// usedBy tells which fields the table of P15.1 names for a kind.
func usedBy(kind int) string {
	return map[int]string{
		api.AnswerState: " Tag Outcome Code Args Text ", api.AnswerContinue: " Text ", api.AnswerCapability: " Flags ",
		api.AnswerEnabled: " Flags ", api.AnswerFlags: " Flags ", api.AnswerList: " Flags Name ", api.AnswerLsub: " Flags Name ",
		api.AnswerSearch: " Nums Modseq ", api.AnswerSort: " Nums Modseq ", api.AnswerThread: " Twigs ",
		api.AnswerStatus: " Name Pairs ", api.AnswerExists: " Num ", api.AnswerRecent: " Num ", api.AnswerExpunge: " Num ",
		api.AnswerFetch: " Num Data ", api.AnswerEsearch: " Tag Uid Pairs Set Modseq ", api.AnswerNamespace: "",
	}[kind]
}

// filled are answers with one field each that is not zero.
func filled() map[string]api.Answer {
	return map[string]api.Answer{
		"Tag": {Tag: "a"}, "Outcome": {Outcome: api.OutOk}, "Code": {Code: api.CodeNone}, "Args": {Args: []api.Value{none()}},
		"Text": {Text: "x"}, "Num": {Num: 1}, "Name": {Name: "x"}, "Nums": {Nums: []int{0}}, "Flags": {Flags: []string{""}},
		"Data": {Data: []api.Datum{{}}}, "Twigs": {Twigs: []api.Twig{{}}}, "Set": {Set: []api.Range{{}}},
		"Pairs": {Pairs: []api.Value{{}}}, "Uid": {Uid: true}, "Modseq": {Modseq: -1},
	}
}

// with is an answer with the one field of another.
func with(a, one api.Answer) api.Answer {
	a.Tag += one.Tag
	a.Outcome += one.Outcome
	a.Code += one.Code
	a.Args = append(a.Args, one.Args...)
	a.Text += one.Text
	a.Num += one.Num
	a.Name += one.Name
	a.Nums = append(a.Nums, one.Nums...)
	a.Flags = append(a.Flags, one.Flags...)
	a.Data = append(a.Data, one.Data...)
	a.Twigs = append(a.Twigs, one.Twigs...)
	a.Set = append(a.Set, one.Set...)
	a.Pairs = append(a.Pairs, one.Pairs...)
	a.Uid = a.Uid || one.Uid
	a.Modseq += one.Modseq
	return a
}

// plain is a good answer of each kind.
func plain() []api.Answer {
	return []api.Answer{
		ok("x"), {Kind: api.AnswerContinue, Text: "x"}, {Kind: api.AnswerCapability, Flags: []string{"x"}}, {Kind: api.AnswerEnabled},
		{Kind: api.AnswerFlags}, {Kind: api.AnswerList}, {Kind: api.AnswerLsub}, {Kind: api.AnswerSearch}, {Kind: api.AnswerSort},
		threads(), status("x"), {Kind: api.AnswerExists}, {Kind: api.AnswerRecent}, {Kind: api.AnswerExpunge, Num: 1},
		valued(none()), esearch(), {Kind: api.AnswerNamespace},
	}
}

// P15.1: what a kind does not name is zero.
func TestUnusedFields(t *testing.T) {
	if len(plain()) != api.AnswerBad-1 || len(filled()) != 15 {
		t.Fatal("not every kind, or not every field")
	}
	for _, a := range plain() {
		if _, is := slowPrint(a); is != api.OK {
			t.Fatalf("%s: no answer", shown(a))
		}
		for field, one := range filled() {
			if !strings.Contains(usedBy(a.Kind), " "+field+" ") {
				refuses(t, with(a, one))
			}
		}
	}
}

// P15.1: kinds that are none, whatever stands beside them.
func TestNoKind(t *testing.T) {
	for _, kind := range []int{0, -1, api.AnswerBad, api.AnswerBad + 1, 255, 1 << 32, math.MaxInt, math.MinInt} {
		refuses(t, api.Answer{Kind: kind}, api.Answer{Kind: kind, Text: "x"}, api.Answer{Kind: kind, Outcome: api.OutOk, Text: "x"})
		for _, a := range plain() {
			a.Kind = kind
			refuses(t, a)
		}
	}
}

func TestTags(t *testing.T) {
	for _, tag := range []string{"a", "OK", "nil", "5", "a.b", "<>", times(api.MaxTag, "t")} {
		prints(t, api.Answer{Kind: api.AnswerState, Tag: tag, Outcome: api.OutOk, Text: "x"}, tag+" OK x")
		prints(t, api.Answer{Kind: api.AnswerEsearch, Tag: tag}, `* ESEARCH (TAG "`+tag+`")`)
		refuses(t, api.Answer{Kind: api.AnswerState, Tag: tag, Outcome: api.OutBye, Text: "x"})
		areBad(t, tag+" BYE x")
	}
	for _, tag := range []string{"*", "+", "a+", " ", "a b", "a ", " a", "(", "a]", `a"`, `\a`, "a%", "{1}", "\x00", "\r\n", "\x7f", "é", times(api.MaxTag+1, "t")} {
		refuses(t, api.Answer{Kind: api.AnswerState, Tag: tag, Outcome: api.OutOk, Text: "x"}, api.Answer{Kind: api.AnswerEsearch, Tag: tag})
	}
	refuses(t, api.Answer{Kind: api.AnswerEsearch})
}

func TestOutcomes(t *testing.T) {
	for _, outcome := range []int{0, -1, 5, 6, 1 << 40, math.MaxInt, math.MinInt} {
		refuses(t, api.Answer{Kind: api.AnswerState, Outcome: outcome, Text: "x"}, api.Answer{Kind: api.AnswerState, Tag: "a", Outcome: outcome, Text: "x"})
	}
}

func TestHumans(t *testing.T) {
	for _, text := range []string{"x", "~", "]", "x ", "x  ", "{", "}", "{}", "{x}", "{1} ", "{1+}", "{1}.", "1}", "x{1", "{ 1}", "{-1}", "(", `"`, `"{1}"`, "* OK x", "*", "+ x", "x [READ-WRITE] y", "x]", times(70000, "x")} {
		prints(t, ok(text), "* OK "+text)
		prints(t, api.Answer{Kind: api.AnswerContinue, Text: text}, "+ "+text)
		prints(t, api.Answer{Kind: api.AnswerState, Tag: "a", Outcome: api.OutNo, Code: api.CodeClosed, Text: text}, "a NO [CLOSED] "+text)
	}
	for _, text := range []string{"", " ", " x", "[", "[x", "[READ-WRITE] x", "{1}", "x{3}", "x {0}", "x{000}", "{{3}", "{99999999999999999999999}", `x "{3}`, "x" + times(5000, "y") + "{" + times(5000, "1") + "}", "a\r\n", "\r", "a\rb", "a\nb", "\x00", "\x1f", "a\tb", "\x7f", "\x80", "é"} {
		refuses(t, ok(text), api.Answer{Kind: api.AnswerContinue, Text: text}, api.Answer{Kind: api.AnswerState, Tag: "a", Outcome: api.OutNo, Code: api.CodeClosed, Text: text})
	}
	for c := range 256 {
		text := "a" + string([]byte{byte(c)}) + "b"
		if c >= 32 && c <= 126 {
			prints(t, ok(text), "* OK "+text)
		} else {
			refuses(t, ok(text))
		}
	}
}

// P15.1: atoms are neither numbers nor NIL; a row of digits that is no number is one.
func TestAtoms(t *testing.T) {
	for _, s := range []string{"a", "0x", "00", "01", "4294967296", "99999999999999999999", "-1", "1.0", "NILS", "NI", "1:2", "+", "<0>", "/", times(5000, "x")} {
		prints(t, api.Answer{Kind: api.AnswerCapability, Flags: []string{s, s}}, "* CAPABILITY "+s+" "+s)
		prints(t, api.Answer{Kind: api.AnswerEnabled, Flags: []string{s}}, "* ENABLED "+s)
		prints(t, valued(atom(s)), "* 1 FETCH (X "+s+")")
		prints(t, valued(list(list(atom(s)), atom(s))), "* 1 FETCH (X (("+s+") "+s+"))")
		prints(t, named(s, num(1)), "* 1 FETCH ("+s+" 1)")
		prints(t, status("x", atom(s), num(0)), "* STATUS x ("+s+" 0)")
		prints(t, esearch(atom(s), num(0)), `* ESEARCH (TAG "a1") `+s+" 0")
		prints(t, coded(api.CodeCapability, atom(s)), "* OK [CAPABILITY "+s+"] x")
		prints(t, coded(api.CodeCharset, atoms(s)), "* OK [BADCHARSET ("+s+")] x")
	}
	for _, s := range []string{"", "0", "1", "4294967295", "NIL", "nil", "Nil", `\Seen`, `\*`, `\`, "*", "%", "a b", " ", "(", ")", "()", "[", "]", "{", "}", "{1}", `"`, `"a"`, "a\\", "\r\n", "\x00", "\x1f", "\x7f", "\x80", "é"} {
		refuses(t, api.Answer{Kind: api.AnswerCapability, Flags: []string{s}}, api.Answer{Kind: api.AnswerCapability, Flags: []string{"x", s}}, api.Answer{Kind: api.AnswerEnabled, Flags: []string{s}}, api.Answer{Kind: api.AnswerEnabled, Flags: []string{"x", s, "y"}})
		refuses(t, valued(atom(s)), valued(list(list(atom(s)))), named(s, num(1)), status("x", atom(s), num(0)), esearch(atom(s), num(0)))
		refuses(t, coded(api.CodeCapability, atom(s)), coded(api.CodeCapability, atom("x"), atom(s)), coded(api.CodeCharset, atoms(s)), coded(api.CodeCharset, atoms("x", s)))
	}
	refuses(t, api.Answer{Kind: api.AnswerCapability})
}

func TestSigns(t *testing.T) {
	for _, s := range []string{"a", "0", "5", "nil", "NIL", "4294967295", "007", `\Seen`, `\*`, `\nil`, `\5`, `\+`, times(5000, "x"), `\` + times(5000, "x")} {
		prints(t, api.Answer{Kind: api.AnswerFlags, Flags: []string{s, s}}, "* FLAGS ("+s+" "+s+")")
		prints(t, api.Answer{Kind: api.AnswerList, Flags: []string{s}, Name: "x"}, "* LIST ("+s+`) "/" x`)
		prints(t, api.Answer{Kind: api.AnswerLsub, Flags: []string{"y", s}, Name: "x"}, "* LSUB (y "+s+`) "/" x`)
		prints(t, named("FLAGS", atoms(s, "y")), "* 1 FETCH (FLAGS ("+s+" y))")
		prints(t, coded(api.CodePermanent, atoms("y", s)), "* OK [PERMANENTFLAGS (y "+s+")] x")
	}
	for _, s := range []string{"", `\`, `\\`, `\\Seen`, `\Se\en`, `Seen\`, "*", `\**`, `\*a`, `\%`, "%", "a*", "a b", " ", `\ `, "(", "a)", `\(`, "[", "a]", "{", "}", "{3}", `"`, `"a"`, "\r\n", "\x00", "\x1f", "\x7f", "\x80", "é"} {
		refuses(t, api.Answer{Kind: api.AnswerFlags, Flags: []string{s}}, api.Answer{Kind: api.AnswerFlags, Flags: []string{`\Seen`, s}}, api.Answer{Kind: api.AnswerList, Flags: []string{s}}, api.Answer{Kind: api.AnswerLsub, Flags: []string{s}}, named("FLAGS", atoms(s)), coded(api.CodePermanent, atoms(s)))
	}
}

func TestNumbers(t *testing.T) {
	for _, n := range []int{1, 2, 9, 10, most - 1, most} {
		s := strconv.Itoa(n)
		prints(t, api.Answer{Kind: api.AnswerExists, Num: n}, "* "+s+" EXISTS")
		prints(t, api.Answer{Kind: api.AnswerRecent, Num: n}, "* "+s+" RECENT")
		prints(t, api.Answer{Kind: api.AnswerExpunge, Num: n}, "* "+s+" EXPUNGE")
		prints(t, api.Answer{Kind: api.AnswerFetch, Num: n, Data: []api.Datum{{Name: "UID", Value: num(n)}}}, "* "+s+" FETCH (UID "+s+")")
		prints(t, api.Answer{Kind: api.AnswerSearch, Nums: []int{n}, Modseq: n}, "* SEARCH "+s+" (MODSEQ "+s+")")
		prints(t, api.Answer{Kind: api.AnswerSort, Nums: []int{n, n}, Modseq: n}, "* SORT "+s+" "+s+" (MODSEQ "+s+")")
		prints(t, threads(uid(n)), "* THREAD ("+s+")")
		prints(t, api.Answer{Kind: api.AnswerEsearch, Tag: "a", Modseq: n}, `* ESEARCH (TAG "a") MODSEQ `+s)
		prints(t, status("x", atom("y"), num(n)), "* STATUS x (y "+s+")")
	}
	prints(t, valued(num(0)), "* 1 FETCH (X 0)")
	prints(t, status("x", atom("y"), num(0)), "* STATUS x (y 0)")
	for _, n := range []int{0, -1, -most, most + 1, math.MaxInt, math.MinInt} {
		refuses(t, api.Answer{Kind: api.AnswerExpunge, Num: n}, api.Answer{Kind: api.AnswerFetch, Num: n, Data: []api.Datum{{Name: "UID", Value: num(1)}}})
		refuses(t, api.Answer{Kind: api.AnswerSearch, Nums: []int{n}}, api.Answer{Kind: api.AnswerSort, Nums: []int{1, n}}, threads(uid(n)), threads(uid(1), uid(2, uid(n))))
		if n != 0 {
			refuses(t, api.Answer{Kind: api.AnswerExists, Num: n}, api.Answer{Kind: api.AnswerRecent, Num: n}, valued(num(n)), valued(list(num(n))), status("x", atom("y"), num(n)), esearch(atom("y"), num(n)))
			refuses(t, api.Answer{Kind: api.AnswerSearch, Modseq: n}, api.Answer{Kind: api.AnswerSort, Modseq: n}, api.Answer{Kind: api.AnswerEsearch, Tag: "a", Modseq: n})
		}
	}
}

// P15.1: strings and names, quoted as long as one likes, as literals up to MaxOutput bytes.
func TestStrings(t *testing.T) {
	literal := func(s string) string { return "{" + strconv.Itoa(len(s)) + "}\r\n" + s }
	for s, form := range map[string]string{
		"": `""`, "a": `"a"`, "NIL": `"NIL"`, "5": `"5"`, "a b": `"a b"`, `a"b\`: `"a\"b\\"`, "{3}": `"{3}"`, "\x01\t\x7f": "\"\x01\t\x7f\"", `")`: `"\")"`,
		"\x00": literal("\x00"), "\r": literal("\r"), "\n": literal("\n"), "\r\n": literal("\r\n"), "\x80": literal("\x80"), "é": literal("é"),
		"{3}\r\n": literal("{3}\r\n"), "a\r\n* 1 EXISTS\r\n": literal("a\r\n* 1 EXISTS\r\n"), "\xff)\r\n": literal("\xff)\r\n"),
		times(api.MaxOutput, "\n"): literal(times(api.MaxOutput, "\n")), times(api.MaxOutput-1, "x") + "\xff": literal(times(api.MaxOutput-1, "x") + "\xff"),
		times(api.MaxOutput, " "): `"` + times(api.MaxOutput, " ") + `"`, times(api.MaxOutput+1, `"`): `"` + times(api.MaxOutput+1, `\"`) + `"`,
	} {
		prints(t, valued(str(s)), "* 1 FETCH (X "+form+")")
		prints(t, valued(list(str(s), list(str(s)))), "* 1 FETCH (X ("+form+" ("+form+")))")
		prints(t, fetch(api.Datum{Name: "X", Value: str(s)}, api.Datum{Name: "Y", Value: num(1)}), "* 1 FETCH (X "+form+" Y 1)")
		if s != "a" && s != "5" {
			prints(t, api.Answer{Kind: api.AnswerList, Name: s}, `* LIST () "/" `+form)
			prints(t, api.Answer{Kind: api.AnswerLsub, Name: s}, `* LSUB () "/" `+form)
			prints(t, status(s, atom("x"), num(1)), "* STATUS "+form+" (x 1)")
		}
	}
	for _, s := range []string{"a", "5", "INBOX", "x/y", "NILS", "&AOk-", times(api.MaxOutput+1, "x")} {
		prints(t, api.Answer{Kind: api.AnswerList, Name: s}, `* LIST () "/" `+s)
		prints(t, api.Answer{Kind: api.AnswerLsub, Name: s}, `* LSUB () "/" `+s)
		prints(t, status(s), "* STATUS "+s+" ()")
	}
	for _, s := range []string{"Nil", "*", `\x`, "a]", "(a", "{1}"} {
		form := `"` + strings.ReplaceAll(s, `\`, `\\`) + `"`
		prints(t, api.Answer{Kind: api.AnswerList, Name: s}, `* LIST () "/" `+form)
		prints(t, status(s), "* STATUS "+form+" ()")
	}
	for _, s := range []string{times(api.MaxOutput+1, "\n"), times(api.MaxOutput, "x") + "\xff", times(3*api.MaxOutput, "\x00")} {
		refuses(t, valued(str(s)), valued(list(str(s))), api.Answer{Kind: api.AnswerList, Name: s}, api.Answer{Kind: api.AnswerLsub, Name: s}, status(s))
	}
}

// P15.1: a value has what its kind names alone; a kind that is none is no value.
func TestValues(t *testing.T) {
	prints(t, valued(none()), "* 1 FETCH (X NIL)")
	prints(t, valued(list()), "* 1 FETCH (X ())")
	prints(t, valued(list(none(), num(0), atom("a"), str("b"), list(list(), none()))), `* 1 FETCH (X (NIL 0 a "b" (() NIL)))`)
	kid := []api.Value{atom("a")}
	for _, v := range []api.Value{
		{Kind: 5}, {Kind: -1}, {Kind: 5, Kids: kid}, {Kind: math.MaxInt}, {Kind: math.MinInt},
		{Num: 1}, {Text: "x"}, {Kids: kid},
		{Kind: api.ValueNumber, Text: "1"}, {Kind: api.ValueNumber, Num: 1, Text: "1"}, {Kind: api.ValueNumber, Kids: kid},
		{Kind: api.ValueAtom, Text: "a", Num: 1}, {Kind: api.ValueAtom, Text: "a", Kids: kid}, {Kind: api.ValueAtom},
		{Kind: api.ValueString, Num: 1}, {Kind: api.ValueString, Text: "x", Kids: kid},
		{Kind: api.ValueList, Num: 1}, {Kind: api.ValueList, Text: "x"}, {Kind: api.ValueList, Kids: kid, Num: -1},
	} {
		refuses(t, valued(v), valued(list(v)), valued(list(atom("a"), v)), named("FLAGS", v), named("FLAGS", list(v)), status("x", v), status("x", atom("a"), v), status("x", v, num(1)), esearch(atom("a"), v), esearch(v, num(1)))
		for code := -1; code <= 24; code++ {
			refuses(t, coded(code, v), coded(code, list(v)), coded(code, num(1), v), coded(code, num(1), atom("1"), v))
		}
	}
}

// P15.1: 2 times MaxNest lists may lie one in the other.
func TestNested(t *testing.T) {
	deepest := 2 * api.MaxNest
	for _, n := range []int{1, 2, deepest - 1, deepest} {
		prints(t, valued(nested(n)), "* 1 FETCH (X "+times(n, "(")+times(n, ")")+")")
		prints(t, valued(nested(n, none(), num(1))), "* 1 FETCH (X "+times(n, "(")+"NIL 1"+times(n, ")")+")")
	}
	prints(t, fetch(api.Datum{Name: "X", Value: nested(deepest)}, api.Datum{Name: "Y", Value: nested(deepest)}), "* 1 FETCH (X "+times(deepest, "(")+times(deepest, ")")+" Y "+times(deepest, "(")+times(deepest, ")")+")")
	prints(t, valued(list(nested(deepest-1), nested(deepest-1))), "* 1 FETCH (X ("+times(deepest-1, "(")+times(deepest-1, ")")+" "+times(deepest-1, "(")+times(deepest-1, ")")+"))")
	for _, n := range []int{deepest + 1, deepest + 2, 100, 60000} {
		refuses(t, valued(nested(n)), valued(list(atom("a"), nested(n-1))), valued(nested(n, str("x"))))
		areBad(t, "* 1 FETCH (X "+times(n, "(")+times(n, ")")+")", "* 1 FETCH (X (a "+times(n-1, "(")+times(n-1, ")")+"))")
	}
	// A list that lies in itself is deeper than any.
	kids := []api.Value{atom("a"), list(), none()}
	kids[1].Kids = kids
	refuses(t, valued(list(kids...)), valued(kids[1]))
}

// P15.1: FLAGS is a list of signs, there alone.
func TestFlagsDatum(t *testing.T) {
	prints(t, named("FLAGS", list()), "* 1 FETCH (FLAGS ())")
	prints(t, named("FLAGS", atoms(`\Seen`, "5", "NIL", "nil", `\*`, "k")), `* 1 FETCH (FLAGS (\Seen 5 NIL nil \* k))`)
	refuses(t, named("FLAGS", none()), named("FLAGS", num(5)), named("FLAGS", atom("k")), named("FLAGS", str("k")), named("FLAGS", list(num(5))), named("FLAGS", list(none())), named("FLAGS", list(str("k"))), named("FLAGS", list(list())), named("FLAGS", list(atom("k"), atoms("k"))))
	for _, name := range []string{"flags", "Flags", "FLAGS[]", "FLAGS.X", "XFLAGS", "BODY[FLAGS]"} {
		refuses(t, named(name, atoms(`\Seen`)), named(name, atoms("5")), named(name, atoms("NIL")), named(name, atoms(`\*`)))
		prints(t, named(name, none()), "* 1 FETCH ("+name+" NIL)")
		prints(t, named(name, list(num(5), none(), atom("k"))), "* 1 FETCH ("+name+" (5 NIL k))")
	}
	areBad(t, "* 1 FETCH (FLAGS NIL)", "* 1 FETCH (FLAGS k)", `* 1 FETCH (FLAGS "k")`, `* 1 FETCH (FLAGS ("k"))`, "* 1 FETCH (FLAGS (()))", `* 1 FETCH (flags (\Seen))`, "* 1 FETCH (FLAGS)", "* 1 FETCH (FLAGS )", `* 1 FETCH (X (\Seen))`)
}

func TestDatumNames(t *testing.T) {
	for _, name := range []string{"UID", "x", "RFC822.SIZE", "01", "BODY<0>", "<>", "BODY[]", "BODY[]<0>", "BODY[]<4294967295>", "BODY[1]", "BODY[NIL]", "BODY[1.MIME]", "BODY[1.2.HEADER]<5>", "BODY[HEADER.FIELDS (SUBJECT)]", "BODY[HEADER.FIELDS (TO CC 5 NIL)]<7>", "BODY[x (a)]", "BODY[x (a <b>)]<0>", "01[]", "x[<5>]", "BODY[5 (5)]"} {
		prints(t, named(name, none()), "* 1 FETCH ("+name+" NIL)")
		prints(t, fetch(api.Datum{Name: name, Value: list()}, api.Datum{Name: name, Value: str("x")}), "* 1 FETCH ("+name+" () "+name+` "x")`)
	}
	names := []string{"", "5", "NIL", "nil", "a b", "a ", " a", "[]", "[1]", "5[]", "NIL[]", "nil[1]", `\Seen`, "*", "a*", `"a"`, "{1}", "(a)", "BODY[", "BODY]", "BODY[]]", "BODY[[]", "BODY[]x", "BODY[]<", "BODY[]<>", "BODY[]<x>", "BODY[]<-1>", "BODY[]<01>", "BODY[]<4294967296>", "BODY[]<0>x", "BODY[]<0", "BODY[]0>", "BODY[]<0><1>", "BODY[]<0.5>", "BODY[] <0>", "BODY[ ]", "BODY[1 ]", "BODY[ 1]", "BODY[1 2]", "BODY[(a)]", "BODY[ (a)]", "BODY[x(a)]", "BODY[x  (a)]", "BODY[x ()]", "BODY[x ( a)]", "BODY[x (a )]", "BODY[x (a  b)]", "BODY[x (a) ]", "BODY[x (a)b]", "BODY[x (a)(b)]", "BODY[x (a) (b)]", "BODY[x (a]", "BODY[x a)]", "BODY[x (a", "BODY[x (a)", `BODY[x ("a")]`, "BODY[x (a])]", "BODY[x (a[)]", `BODY[\x]`, "BODY[*]", `BODY["x"]`, "BODY[{1}]", "BODY[x (*)]", "BODY[\r\n]", "BODY[\x00]", "BODY[é]", "BODY[1]\r\n", "a\r\n", "\x7f", "é"}
	for _, name := range names {
		refuses(t, named(name, none()), fetch(api.Datum{Name: "X"}, api.Datum{Name: name, Value: list()}))
	}
	refuses(t, fetch(), api.Answer{Kind: api.AnswerFetch, Num: 1, Data: []api.Datum{{}}})
	for _, name := range names {
		if !strings.Contains(name, crlf) {
			areBad(t, "* 1 FETCH ("+name+" NIL)")
		}
	}
}

// P15.1: threads, and what may not be one.
func TestTwigs(t *testing.T) {
	for _, c := range []struct {
		twigs []api.Twig
		line  string
	}{
		{[]api.Twig{uid(1)}, "(1)"},
		{[]api.Twig{uid(1), uid(1), uid(most)}, "(1)(1)(4294967295)"},
		{[]api.Twig{uid(1, uid(2, uid(3)))}, "(1 2 3)"},
		{[]api.Twig{uid(1, uid(2), uid(3))}, "(1 (2)(3))"},
		{[]api.Twig{uid(1, uid(2, uid(3), uid(4, uid(5))))}, "(1 2 (3)(4 5))"},
		{[]api.Twig{uid(0, uid(2), uid(3), uid(4))}, "((2)(3)(4))"},
		{[]api.Twig{uid(0, uid(0, uid(1), uid(2)), uid(3))}, "(((1)(2))(3))"},
		{[]api.Twig{uid(9, uid(0, uid(1), uid(2)), uid(3))}, "(9 ((1)(2))(3))"},
	} {
		prints(t, threads(c.twigs...), "* THREAD "+c.line)
	}
	pair := func(kids ...api.Twig) api.Twig { return uid(0, kids...) }
	refuses(t, threads(uid(0)), threads(uid(0, uid(1))), threads(uid(1), uid(0)), threads(uid(1, uid(0))), threads(uid(1, uid(2), uid(0))))
	refuses(t, threads(uid(1, pair(uid(2), uid(3)))), threads(pair(pair(uid(2), uid(3)))), threads(pair(uid(1), uid(2, pair(uid(3), uid(4))))))
	areBad(t, "* THREAD ", "* THREAD ()", "* THREAD (0)", "* THREAD (01)", "* THREAD ((1))", "* THREAD (1 (2))", "* THREAD (1 ((2)(3)))", "* THREAD (1)(", "* THREAD (1", "* THREAD 1", "* THREAD (1) (2)", "* THREAD (1 )", "* THREAD ( 1)", "* THREAD (1  2)", "* THREAD (1(2)(3))", "* THREAD (1 (2) (3))", "* THREAD (0 (2)(3))", "* THREAD (1 2 )", "* THREAD (4294967296)", "* THREAD (-1)", "* THREAD (1))", "* THREAD (1)x", "* THREAD  (1)", "* THREAD(1)", "* THREAD (a)", "* THREAD (1,2)", "* THREAD ((1)(2) 3)", "* THREAD ((1)2)")
}

// P15.1: twigs lie in one another at most MaxMails deep.
func TestDeepTwigs(t *testing.T) {
	line := func(n int) string {
		s := "(1"
		for i := 2; i <= n; i++ {
			s += " " + strconv.Itoa(i)
		}
		return s + ")"
	}
	forked := func(n int) (api.Twig, string) {
		twig, s := uid(0, uid(1), uid(2)), "(1)(2)"
		for range n - 2 {
			twig, s = uid(0, twig, uid(3)), "("+s+")(3)"
		}
		return twig, "(" + s + ")"
	}
	for _, n := range []int{2, 3, api.MaxMails - 1, api.MaxMails} {
		prints(t, threads(chain(n)), "* THREAD "+line(n))
		prints(t, threads(uid(1), chain(n), chain(n)), "* THREAD (1)"+line(n)+line(n))
		twig, s := forked(n)
		prints(t, threads(twig), "* THREAD "+s)
	}
	for _, n := range []int{api.MaxMails + 1, api.MaxMails + 2, 200, 3000} {
		twig, s := forked(n)
		refuses(t, threads(chain(n)), threads(uid(1), chain(n)), threads(uid(1, uid(2), chain(n-1))), threads(twig))
		areBad(t, "* THREAD "+line(n), "* THREAD "+s, "* THREAD (1 (2)"+line(n-1)+")", "* THREAD "+times(n, "("))
	}
	// A twig that lies in itself is deeper than any.
	kids := []api.Twig{uid(1), uid(2)}
	kids[1].Kids = kids
	refuses(t, threads(kids...), threads(uid(0, kids...)))
	kids = []api.Twig{uid(1)}
	kids[0].Kids = kids
	refuses(t, threads(kids...))
}

// P15.1: the Set of an ESEARCH is one without a star, of at most MaxRanges pieces.
func TestSets(t *testing.T) {
	with := func(set ...api.Range) api.Answer { return api.Answer{Kind: api.AnswerEsearch, Tag: "a", Set: set} }
	many := make([]api.Range, api.MaxRanges)
	text := ""
	for i := range many {
		many[i] = api.Range{From: most, To: most - 1 - i}
		text += ",4294967295:" + strconv.Itoa(most-1-i)
	}
	prints(t, with(many...), `* ESEARCH (TAG "a") ALL `+text[1:])
	prints(t, with(api.Range{From: 1, To: 1}), `* ESEARCH (TAG "a") ALL 1`)
	prints(t, with(api.Range{From: 7, To: 2}, api.Range{From: 3, To: 3}), `* ESEARCH (TAG "a") ALL 7:2,3`)
	refuses(t, with(append(many, api.Range{From: 1, To: 1})...))
	for _, end := range []int{0, -1, most + 1, math.MinInt, math.MaxInt} {
		refuses(t, with(api.Range{From: end, To: 1}), with(api.Range{From: 1, To: end}), with(api.Range{From: 1, To: 1}, api.Range{From: end, To: end}))
	}
	for _, set := range []string{"", "*", "1:*", "*:1", "0", "1:0", "01", "5:5", "1,", ",1", "1::2", "1:2:3", "1, 2", "4294967296", "a", "1 2", text[1:] + ",1"} {
		areBad(t, `* ESEARCH (TAG "a") ALL `+set, `* ESEARCH (TAG "a") ALL `+set+" MODSEQ 5")
	}
}

// P15.1: names and numbers in turn; in ESEARCH no name is one of its own, written just so.
func TestPairs(t *testing.T) {
	for _, name := range []string{"UID", "ALL", "MODSEQ"} {
		refuses(t, esearch(atom(name), num(1)), esearch(atom("MIN"), num(1), atom(name), num(1)))
		prints(t, status("x", atom(name), num(1)), "* STATUS x ("+name+" 1)")
		prints(t, named(name, num(1)), "* 1 FETCH ("+name+" 1)")
		for _, other := range []string{strings.ToLower(name), name[:1] + strings.ToLower(name[1:]), name + "X", "X" + name} {
			prints(t, esearch(atom(other), num(1)), `* ESEARCH (TAG "a1") `+other+" 1")
			prints(t, api.Answer{Kind: api.AnswerEsearch, Tag: "a1", Uid: true, Pairs: []api.Value{atom(other), num(1)}, Modseq: 2}, `* ESEARCH (TAG "a1") UID `+other+" 1 MODSEQ 2")
		}
	}
	prints(t, esearch(atom("TAG"), num(1), atom("TAG"), num(1)), `* ESEARCH (TAG "a1") TAG 1 TAG 1`)
	for _, pairs := range [][]api.Value{{atom("a")}, {num(1)}, {num(1), atom("a")}, {atom("a"), atom("b")}, {num(1), num(1)}, {atom("a"), num(1), atom("b")}, {atom("a"), num(1), num(1)}, {atom("a"), num(1), num(1), atom("b")}, {atom("a"), str("1")}, {str("a"), num(1)}, {atom("a"), none()}, {atom("a"), list()}, {atom("a"), list(num(1))}, {none(), num(1)}} {
		refuses(t, status("x", pairs...), esearch(pairs...))
	}
	areBad(t, "* STATUS x (a)", "* STATUS x (1)", "* STATUS x (1 a)", "* STATUS x (a 1 b)", "* STATUS x (a 1 )", "* STATUS x ( a 1)", "* STATUS x (a  1)", "* STATUS x (a 01)", `* STATUS x (a "1")`, "* STATUS x (a NIL)", "* STATUS x (a (1))", "* STATUS x", "* STATUS x ", "* STATUS x a 1", "* STATUS  ()", "* STATUS ()", `* STATUS "x" ()`, "* STATUS x() ", "* STATUS x()")
}
