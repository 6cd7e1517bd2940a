package answer_test

import (
	"strconv"
	"strings"
	"testing"

	"postbag/answer"
	"postbag/api"
)

// P15.3, P15.4: where an answer ends, and what lies in it.
func TestCut(t *testing.T) {
	exists := api.Answer{Kind: api.AnswerExists, Num: 1}
	long := times(api.MaxOutput, "\n")
	for fed, want := range map[string][]api.Answer{
		"":                                       nil,
		"\r\n":                                   {bad("")},
		"\r\n\r\n":                               {bad(""), bad("")},
		"* 1 EXISTS":                             nil,
		"* 1 EXISTS\r":                           nil,
		"* 1 EXISTS\n":                           nil,
		"* 1 EXISTS\n\r":                         nil,
		"* 1 EXISTS\r\n":                         {exists},
		"* 1 EXISTS\r\r\n":                       {bad("* 1 EXISTS\r")},
		"* 1 EXISTS\n\r\n":                       {bad("* 1 EXISTS\n")},
		"* 1 EXISTS\r\n\n* 1 EXISTS\r\n":         {exists, bad("\n* 1 EXISTS")},
		"* 1 EXISTS\r* 1 EXISTS\n* 1 EXISTS\r\n": {bad("* 1 EXISTS\r* 1 EXISTS\n* 1 EXISTS")},
		"* 1 EXISTS\r\n* 1 EXISTS\r\n":           {exists, exists},
		"* 1 EXISTS\r\n* 01 EXISTS\r\nx":         {exists, bad("* 01 EXISTS")},
		"x\r\n* 1 EXISTS\r\n":                    {bad("x"), exists},
		"x {0}\r\n\r\n":                          {bad("x {0}\r\n")},
		"{0}\r\n{0}\r\n\r\n":                     {bad("{0}\r\n{0}\r\n")},
		"{1}\r\n\r\n":                            nil, // the CR is the literal
		"{1}\r\n\r\r\n":                          {bad("{1}\r\n\r")},
		"{1}\r\n\r\n\r\n":                        {bad("{1}\r\n\r\n")},
		"{2}\r\n\r\n\r\n":                        {bad("{2}\r\n\r\n")},
		"{3}\r\n{3}\r\n* 1 EXISTS\r\n":           {bad("{3}\r\n{3}"), exists}, // the announcement stands in the literal
		"{2}\r\n{3}\r\n* 1 EXISTS\r\n":           {bad("{2}\r\n{3}"), exists}, // a part of it does
		"{1}\r\nx{3}\r\n\r\n\r\r\n* 1 EXISTS\r\n":   {bad("{1}\r\nx{3}\r\n\r\n\r"), exists},
		"{5}\r\n{3}\r\n* 1 EXISTS\r\n":              {bad("{5}\r\n{3}\r\n* 1 EXISTS")},
		"{003}\r\nabc\r\n":                          {bad("{003}\r\nabc")},
		"{" + times(500, "0") + "3}\r\nabc\r\n":     {bad("{" + times(500, "0") + "3}\r\nabc")},
		"{3+}\r\n{}\r\n{x}\r\n{-1}\r\n{1 }\r\n":     {bad("{3+}"), bad("{}"), bad("{x}"), bad("{-1}"), bad("{1 }")},
		"{3} \r\n{3}x\r\n3}\r\n{3\r\n}\r\n{\r\n":    {bad("{3} "), bad("{3}x"), bad("3}"), bad("{3"), bad("}"), bad("{")},
		"{{2}\r\n\r\n\r\n}{2}\r\n\r\n\r\n":          {bad("{{2}\r\n\r\n"), bad("}{2}\r\n\r\n")},
		"\"{2}\r\n\r\n\r\n\\{2}\r\n\r\n\r\n":        {bad("\"{2}\r\n\r\n"), bad("\\{2}\r\n\r\n")}, // quotes say nothing here
		"{3\r}\r\n{\r\n3}\r\n":                      {bad("{3\r}"), bad("{"), bad("3}")},
		"{65537}\r\n* 1 EXISTS\r\n":                 {bad("{65537}"), exists},
		"{99999999999999999999999}\r\nx\r\n":        {bad("{99999999999999999999999}"), bad("x")},
		"{18446744073709551617}\r\nx\r\n":           {bad("{18446744073709551617}"), bad("x")}, // 1, if it went round
		"{65536}\r\n* 1 EXISTS\r\n":                 nil,
		"{65536}\r\n" + long + "\r\n":               {bad("{65536}\r\n" + long)},
		"{00065536}\r\n" + long + "{65537}\r\n":     {bad("{00065536}\r\n" + long + "{65537}")},
		"{1}\r\nx{65537}\r\nx\r\n":                  {bad("{1}\r\nx{65537}"), bad("x")},
		"* LIST () \"/\" {3}\r\na\r\n\r\n":          {{Kind: api.AnswerList, Name: "a\r\n"}},
		"* OK x {3}\r\na\r\n\r\n* 1 EXISTS\r\n":     {bad("* OK x {3}\r\na\r\n"), exists},
		"* OK x {65537}\r\n* 1 EXISTS\r\n":          {bad("* OK x {65537}"), exists},
		"* LIST () \"/\" {65536}\r\n" + long + crlf: {{Kind: api.AnswerList, Name: long}},
		"* 1 FETCH (X {5}\r\n{3}\r\n Y {7}\r\n\r\n{9}\r\n Z {1}\r\n\xff)\r\n* 1 EXISTS\r\n": {fetch(api.Datum{Name: "X", Value: str("{3}\r\n")}, api.Datum{Name: "Y", Value: str("\r\n{9}\r\n")}, api.Datum{Name: "Z", Value: str("\xff")}), exists},
	} {
		tells(t, fed, want...)
		var slow []string
		for _, a := range want {
			slow = append(slow, bytesOf(t, a))
		}
		if got := strings.Join(slowCut(fed), crlf); len(want) > 0 && got+crlf != strings.Join(slow, "") {
			t.Errorf("%.100q: the tests do not agree: %.100q", fed, got)
		}
	}
}

// bytesOf is what was fed of an answer.
func bytesOf(t *testing.T, a api.Answer) string {
	t.Helper()
	if a.Kind == api.AnswerBad {
		return a.Text + crlf
	}
	line, e := answer.Print(a)
	if e != api.OK {
		t.Fatalf("Print(%.300s): %d", shown(a), e)
	}
	return line
}

// lines are such as Print writes, without their ends: each kind, and most of what may stand in one.
func lines() []string {
	return []string{
		"* OK x", "a1 NO [BADCHARSET (US-ASCII UTF-8)] no", "b BAD x", "* BYE [CLOSED] until", "a OK [COPYUID 7 1:2 5:6,9] x", "* OK [PERMANENTFLAGS (\\Seen k \\*)] y",
		"* OK [CAPABILITY IMAP4rev1 IDLE] z", "c OK [APPENDUID 1 5] d", "* OK [UIDNEXT 10] e", "a OK [MODIFIED 2,4:3] f", "+ go ahead", "* CAPABILITY IMAP4rev1 LITERAL+",
		"* ENABLED", "* ENABLED CONDSTORE", "* FLAGS ()", `* FLAGS (\Seen 5 \*)`, `* LIST (\Noselect) "/" ""`, `* LIST () "/" "a \" \\"`, `* LSUB () "/" INBOX/x`,
		"* LIST () \"/\" {5}\r\n\r\n{3}", "* SEARCH", "* SEARCH 10 2", "* SORT 1 (MODSEQ 20)", "* SEARCH (MODSEQ 4294967295)", "* THREAD", "* THREAD (1 2)((3)(4 (5)(6 7)))",
		"* STATUS x ()", "* STATUS \"a b\" (MESSAGES 0 UIDNEXT 10)", "* STATUS {2}\r\n\xc3\xa9 (X 1)", "* 0 EXISTS", "* 10 RECENT", "* 1 EXPUNGE", "* 12 FETCH (UID 5 FLAGS (\\Seen NIL))",
		"* 1 FETCH (BODY[HEADER.FIELDS (TO CC)]<10> \"a\\\"b\" X (NIL (1 a \"\") ()))", "* 1 FETCH (BODY[] {6}\r\na\r\nb\r\n BODY[1]<0> {1}\r\n\r X {1}\r\n\n)",
		`* ESEARCH (TAG "a1") UID MIN 1 COUNT 0 ALL 1:3,5 MODSEQ 8`, `* ESEARCH (TAG "t")`, `* NAMESPACE (("" "/")) NIL NIL`,
	}
}

// P15.3: a line that is cut at any byte is not told; with what is left it is.
func TestCutAtEveryByte(t *testing.T) {
	for _, line := range lines() {
		whole := line + crlf
		for n := range len(whole) {
			r := answer.New()
			r.Feed(whole[:n])
			if got := told(r); len(got) > 0 {
				t.Errorf("%q: %s", whole[:n], allShown(got))
			}
			r.Feed(whole[n:])
			if got := told(r); len(got) != 1 || got[0].Kind == api.AnswerBad || bytesOf(t, got[0]) != whole {
				t.Errorf("%q and %q: %s", whole[:n], whole[n:], allShown(got))
			}
		}
	}
}

// P15.4: a line that is nearly an answer is one only if it is just what Print writes of one.
func TestNearlyAnswers(t *testing.T) {
	for _, line := range lines() {
		for at := range len(line) + 1 {
			for _, s := range []string{" ", "0", "1", "(", ")", "[", "]", "\"", "\\", "a", "*", "{", "}", "{1}", "\r", "\n", "\x00", "\x80", "+", "<", "NIL", "()", ":", ","} {
				lookAt(t, line[:at]+s+line[at:])
				if at < len(line) {
					lookAt(t, line[:at]+s+line[at+1:])
				}
			}
			if at < len(line) {
				lookAt(t, line[:at]+line[at+1:])
				lookAt(t, line[:at]+flipped(line[at])+line[at+1:])
			}
			lookAt(t, line[:at])
			lookAt(t, line[at:])
		}
	}
}

func flipped(c byte) string {
	if 'a' <= c|32 && c|32 <= 'z' {
		c ^= 32
	}
	return string([]byte{c})
}

// lookAt holds a reader to what it must tell of a line by the means of another make.
func lookAt(t *testing.T, line string) {
	t.Helper()
	r := answer.New()
	fed := line + crlf
	r.Feed(fed)
	for _, line := range slowCut(fed) {
		a, is := r.Next()
		if !is {
			t.Errorf("%q: %q is not told", fed, line)
			return
		}
		holds(t, line, a)
	}
	if a, is := r.Next(); is {
		t.Errorf("%q: %s is told", fed, shown(a))
	}
}

func holds(t *testing.T, line string, a api.Answer) {
	t.Helper()
	if !isSlowAnswer(line) {
		if shown(a) != shown(bad(line)) {
			t.Errorf("%q: %s", line, shown(a))
		}
		return
	}
	if slow, e := slowPrint(a); e != api.OK || slow != line+crlf {
		t.Errorf("%q: %s, which is written %q", line, shown(a), slow)
	}
}

// P15.4: lines that are no answer, some of them nearly one.
func TestNoAnswers(t *testing.T) {
	areBad(t, "", " ", "*", "* ", "+", "+ ", "+x", "+  x", "+ [x", "a", "a ", "a OK", "a OK ", "a OK  x", "a  OK x", " OK x", " a OK x", "a ok x", "a Ok x", "a OKAY x", "a FROB x", "a EXISTS", "a BYE x", "* OK", "* OK ", "*  OK x", "*OK x", "** OK x", "+ x\x7f", "a+ OK x", "\\a OK x", "é OK x", times(33, "t")+" OK x", "* ok x", "* BYE", "* BYE  x", "* FROB x", "* PREAUTH x")
	areBad(t, "* CAPABILITY", "* CAPABILITY ", "* CAPABILITY  x", "* CAPABILITY x ", "* CAPABILITY x  y", "* CAPABILITY 5", "* CAPABILITY nil", "* CAPABILITY (x)", "* CAPABILITY \"x\"", "* capability x", "* CAPABILITYx", "* ENABLED ", "* ENABLED  x", "* ENABLED x ", "* ENABLED 5", "* Enabled x", "1 CAPABILITY x", "* 1 CAPABILITY x", "CAPABILITY x")
	areBad(t, "* FLAGS", "* FLAGS ", "* FLAGS()", "* FLAGS ( )", "* FLAGS (x ", "* FLAGS x", "* FLAGS (x) ", "* FLAGS (x)(y)", "* FLAGS (x y) z", "* FLAGS (x  y)", "* FLAGS ( x)", "* FLAGS (x )", "* FLAGS ((x))", "* FLAGS (\"x\")", "* flags ()", "* FLAGS (\\)", "* FLAGS [x]", "* FLAGS NIL", "* 1 FLAGS ()")
	areBad(t, `* LIST "/" x`, `* LIST () "/"`, `* LIST () "/" `, `* LIST () "/"  x`, `* LIST ()  "/" x`, `* LIST () "." x`, `* LIST () / x`, `* LIST () NIL x`, `* LIST () "/" x y`, `* LIST () "/" x `, `* LIST () "/" "x"`, `* LIST () "/" nil`, `* LIST () "/" NIL`, `* LIST () "/" "a`, `* LIST () "/" "a\"`, `* LIST () "/" "\a b"`, `* LIST () "/" "a b"c`, `* LIST () "/" "a b" `, `* LIST () "/" (x)`, `* LIST () "/" a]`, `* LIST () "/" *`, `* list () "/" x`, `* LIST () "/" "é"`, "* LIST () \"/\" \"a\nb\"", "* LIST () \"/\" \"a\x00b\"", `* LSUB () "/"`)
	areBad(t, "* LIST () \"/\" {3}\r\nabc", "* LIST () \"/\" {3}\r\na b", "* LIST () \"/\" {0}\r\n", "* LIST () \"/\" {01}\r\n\n", "* LIST () \"/\" {1}\r\n\nx", "* LIST () \"/\" {1}\r\n\n ", "* LIST () {1}\r\n/ x", "* LIST () {1}\r\n\n \"/\" x", "* LIST ({1}\r\n\n) \"/\" x", "* LIST () \"/\" x{1}\r\n\n", "* LIST () \"/\" \"{1}\r\n\n\"", "{1}\r\n\n", "{1}\r\n* 1 EXISTS", "* 1 EXISTS{1}\r\n\n", "* {1}\r\n1 EXISTS")
	areBad(t, "* SEARCH ", "* SEARCH 0", "* SEARCH 01", "* SEARCH 1 ", "* SEARCH  1", "* SEARCH 1  2", "* SEARCH 1,2", "* SEARCH 1:2", "* SEARCH x", "* SEARCH -1", "* SEARCH 4294967296", "* SEARCH (MODSEQ 0)", "* SEARCH (MODSEQ 01)", "* SEARCH (MODSEQ)", "* SEARCH (MODSEQ )", "* SEARCH (MODSEQ 4294967296)", "* SEARCH (modseq 1)", "* SEARCH (MODSEQ 1) 2", "* SEARCH (MODSEQ 1) (MODSEQ 1)", "* SEARCH 1(MODSEQ 1)", "* SEARCH 1 (MODSEQ 1 )", "* SEARCH 1 (MODSEQ 1", "* SEARCH 1 MODSEQ 1", "* SEARCH 1 (MODSEQ  1)", "* SEARCH (1)", "* search 1", "* SEARCH 1)", "* SORT 0", "* Sort 1", "* 1 SEARCH", "* SORT ]")
	areBad(t, "* EXISTS", "* -1 EXISTS", "* +1 EXISTS", "* 01 EXISTS", "* 00 EXISTS", "* 1  EXISTS", "*  1 EXISTS", "* 1 EXISTS ", "* 1 EXISTS x", "* 1EXISTS", "*1 EXISTS", "* x EXISTS", "* 1 exists", "* 1 Exists", "* 4294967296 EXISTS", "* 18446744073709551617 EXISTS", "1 EXISTS", "* 1 1 EXISTS", "* 0 EXPUNGE", "* 01 EXPUNGE", "* EXPUNGE", "* 1", "* 1 ", "* 1 OK x", "* 1 FROB", "* 01 RECENT", "* RECENT", "* 1 RECENT 2", "* 1) EXISTS", "* 1] EXISTS")
	areBad(t, "* FETCH (X 1)", "* 0 FETCH (X 1)", "* 01 FETCH (X 1)", "* 1 FETCH", "* 1 FETCH ", "* 1 FETCH ()", "* 1 FETCH X 1", "* 1 FETCH (X)", "* 1 FETCH (X )", "* 1 FETCH (X  1)", "* 1 FETCH ( X 1)", "* 1 FETCH (X 1 )", "* 1 FETCH (X 1) ", "* 1 FETCH (X 1", "* 1 FETCH (X 1))", "* 1 FETCH (X 1  Y 2)", "* 1 FETCH (X 1Y 2)", "* 1 FETCH (X 1 Y)", "* 1 FETCH(X 1)", "* 1 FETCH  (X 1)", "* 1 fetch (X 1)", "* 1 FETCH (X 1)(Y 2)", "* 1 FETCH (X nil)", "* 1 FETCH (X Nil)", "* 1 FETCH (X ( 1))", "* 1 FETCH (X (1 ))", "* 1 FETCH (X (1  2))", "* 1 FETCH (X (1)(2))", "* 1 FETCH (X ((1)(2)))", "* 1 FETCH (X (1\"a\"))", "* 1 FETCH (X [1])", "* 1 FETCH (X \\a)", "* 1 FETCH (X *)", "* 1 FETCH (X a%)", "* 1 FETCH (X \"a)", "* 1 FETCH (X \"\\a\")", "* 1 FETCH (X (a)", "* 1 FETCH (X a])", "* 1 FETCH (X )1)")
	areBad(t, "* 1 FETCH (X {3}\r\nabc)", "* 1 FETCH (X {1}\r\n\n", "* 1 FETCH (X {1}\r\n\nY 1)", "* 1 FETCH (X {01}\r\n\n)", "* 1 FETCH (X {0}\r\n)", "* 1 FETCH (X {1}\r\n\n )", "* 1 FETCH (X{1}\r\n\n)", "* 1 FETCH ({1}\r\n\n 1)", "* 1 FETCH (X {2}\r\n\n)", "* 1 FETCH (X {1}\r\n\n{1}\r\n\n)", "* 1 FETCH (X \"a\" {1}\r\n\n)")
	areBad(t, "* ESEARCH", "* ESEARCH ", `* ESEARCH (TAG a)`, `* ESEARCH (TAG "")`, `* ESEARCH (TAG "a+")`, `* ESEARCH (TAG "a b")`, `* ESEARCH (tag "a")`, `* ESEARCH (TAG "a" )`, `* ESEARCH (TAG  "a")`, `* ESEARCH  (TAG "a")`, `* ESEARCH(TAG "a")`, `* ESEARCH (TAG "a"`, "* ESEARCH (TAG {1}\r\na)", "* ESEARCH (TAG {1}\r\n\n)", `* ESEARCH UID`, `* ESEARCH (TAG "`+times(33, "t")+`")`)
	for _, rest := range []string{" ", "UID", " uid", " UID ", "  UID", " UID UID", " MIN", " MIN x", " MIN 01", " MIN  1", " MIN 1 ", " MIN 1 UID", " ALL", " ALL x", " ALL 1 ALL 2", " ALL 1 MIN 1", " ALL 1 UID", " MODSEQ", " MODSEQ 0", " MODSEQ 01", " MODSEQ 1 MODSEQ 2", " MODSEQ 1 ALL 1", " MODSEQ 1 MIN 1", " MODSEQ 1 UID", " MIN 4294967296", " 5 1", " NIL 1", " (MIN 1)", " MODSEQ (1)", " ALL (1)", " UID 1", " MIN \"1\"", " \\MIN 1", " MIN 1) "} {
		areBad(t, `* ESEARCH (TAG "a")`+rest)
	}
	areBad(t, "* NAMESPACE", `* NAMESPACE (("" "/")) NIL NIL `, `* NAMESPACE (("" "/")) NIL`, `* NAMESPACE (("" "/")) nil nil`, `* NAMESPACE  (("" "/")) NIL NIL`, `* namespace (("" "/")) NIL NIL`, `* NAMESPACE (("" ".")) NIL NIL`, `* NAMESPACE NIL NIL NIL`, `* 1 NAMESPACE (("" "/")) NIL NIL`, `NAMESPACE (("" "/")) NIL NIL`)
}

// P15.4 (W1): brackets without an end, in which no reader may get lost.
func TestManyBrackets(t *testing.T) {
	for _, head := range []string{"* 1 FETCH (X ", "* THREAD ", "* FLAGS ", "* STATUS x ", "* OK [PERMANENTFLAGS "} {
		line := head + times(5000000, "(")
		r := answer.New()
		r.Feed(line + crlf)
		if a, is := r.Next(); !is || a.Kind != api.AnswerBad || a.Text != line {
			t.Errorf("%s and brackets: kind %d, %v", head, a.Kind, is)
		}
	}
}

// P15.4: of every number that is not written as Print does it, at every place.
func TestNumbersOfLines(t *testing.T) {
	for _, place := range []string{"* # EXISTS", "* # RECENT", "* # EXPUNGE", "* # FETCH (UID 1)", "* 1 FETCH (UID (#))", "* SEARCH #", "* SORT 1 #", "* SEARCH (MODSEQ #)", "* THREAD (#)", "* THREAD (1 #)", "* STATUS x (A #)", `* ESEARCH (TAG "a") MIN #`, `* ESEARCH (TAG "a") MODSEQ #`, `* ESEARCH (TAG "a") ALL #`, "* OK [UIDNEXT #] x", "* OK [APPENDUID # 1] x", "* OK [APPENDUID 1 #] x", "* 1 FETCH (BODY[]<#> NIL)"} {
		for _, n := range []int{1, 10, 4294967294, 4294967295} {
			line := strings.Replace(place, "#", strconv.Itoa(n), 1)
			if r := answer.New(); !isSlowAnswer(line) || !tellsGood(r, line) {
				t.Errorf("%s: no answer", line)
			}
		}
		for _, n := range []string{"00", "01", "010", "4294967296", "9999999999", "18446744073709551616", "-1", "+1", "1.0", "0x1", "1e3", " 1", "1 ", "١"} {
			if line := strings.Replace(place, "#", n, 1); strings.Contains(place, "(UID (#") {
				lookAt(t, line)
			} else {
				areBad(t, line)
			}
		}
	}
}

func tellsGood(r *answer.Reader, line string) bool {
	r.Feed(line + crlf)
	a, is := r.Next()
	return is && a.Kind != api.AnswerBad
}
