package answer_test

import (
	"math"
	"strconv"
	"testing"

	"postbag/api"
)

// P15.2: every code with what it has, as often as the document says.
func TestCodes(t *testing.T) {
	for _, c := range []struct {
		code int
		args []api.Value
		text string
	}{
		{api.CodeAlready, nil, "ALREADYEXISTS"}, {api.CodeNone, nil, "NONEXISTENT"}, {api.CodeCannot, nil, "CANNOT"},
		{api.CodeQuota, nil, "OVERQUOTA"}, {api.CodeLimit, nil, "LIMIT"}, {api.CodeTry, nil, "TRYCREATE"},
		{api.CodeReadOnly, nil, "READ-ONLY"}, {api.CodeReadWrite, nil, "READ-WRITE"}, {api.CodeClosed, nil, "CLOSED"},
		{api.CodeAuth, nil, "AUTHENTICATIONFAILED"}, {api.CodeInUse, nil, "INUSE"}, {api.CodeHasChildren, nil, "HASCHILDREN"},
		{api.CodeIssued, nil, "EXPUNGEISSUED"},
		{api.CodeNext, []api.Value{num(2)}, "UIDNEXT 2"}, {api.CodeValidity, []api.Value{num(most)}, "UIDVALIDITY 4294967295"},
		{api.CodeUnseen, []api.Value{num(0)}, "UNSEEN 0"}, {api.CodeModseq, []api.Value{num(1)}, "HIGHESTMODSEQ 1"},
		{api.CodePermanent, []api.Value{list()}, "PERMANENTFLAGS ()"},
		{api.CodePermanent, []api.Value{atoms(`\Seen`, "5", "nil", `\*`)}, `PERMANENTFLAGS (\Seen 5 nil \*)`},
		{api.CodeAppend, []api.Value{num(1), atom("5")}, "APPENDUID 1 5"}, {api.CodeAppend, []api.Value{num(0), atom("7:5,2")}, "APPENDUID 0 7:5,2"},
		{api.CodeCopy, []api.Value{num(7), atom("1:2"), atom("5:6")}, "COPYUID 7 1:2 5:6"},
		{api.CodeModified, []api.Value{atom("4294967295")}, "MODIFIED 4294967295"}, {api.CodeModified, []api.Value{atom("1,1,3:2")}, "MODIFIED 1,1,3:2"},
		{api.CodeCapability, []api.Value{atom("IMAP4rev1")}, "CAPABILITY IMAP4rev1"},
		{api.CodeCapability, []api.Value{atom("a"), atom("THREAD=REFERENCES"), atom("LITERAL+")}, "CAPABILITY a THREAD=REFERENCES LITERAL+"},
		{api.CodeCharset, []api.Value{list()}, "BADCHARSET ()"}, {api.CodeCharset, []api.Value{atoms("US-ASCII", "UTF-8")}, "BADCHARSET (US-ASCII UTF-8)"},
	} {
		for outcome, name := range map[int]string{api.OutOk: "OK", api.OutNo: "NO", api.OutBad: "BAD", api.OutBye: "BYE"} {
			a := api.Answer{Kind: api.AnswerState, Outcome: outcome, Code: c.code, Args: c.args, Text: "no [x]"}
			prints(t, a, "* "+name+" ["+c.text+"] no [x]")
			if a.Tag = "a"; outcome != api.OutBye {
				prints(t, a, "a "+name+" ["+c.text+"] no [x]")
			}
		}
		wrongCounts(t, c.code, c.args)
		areBad(t, "* OK ["+c.text+"]", "* OK ["+c.text+"] ", "* OK ["+c.text+"]x", "* OK ["+c.text+"]  x", "* OK ["+c.text+" ] x", "* OK [ "+c.text+"] x", "* OK ["+c.text+" x", "* OK ["+c.text+"] [CLOSED] x", "* OK  ["+c.text+"] x", "* OK ["+c.text+" ()()] x", "* OK [x"+c.text+"] x", "* OK ["+c.text+"] x {3}\r\nabc", "+ ["+c.text+"] x")
	}
}

// wrongCounts holds a code to as many arguments as it has.
func wrongCounts(t *testing.T, code int, args []api.Value) {
	t.Helper()
	isMany := code == api.CodeCapability
	if len(args) == 1 || len(args) > 1 && !isMany {
		refuses(t, coded(code, args[1:]...))
	}
	if len(args) > 0 {
		refuses(t, coded(code))
	}
	for _, more := range []api.Value{none(), num(1), atom("1"), atom("x"), str("x"), list(), atoms("x")} {
		if !isMany || more.Kind != api.ValueAtom || more.Text == "1" {
			refuses(t, coded(code, append(append([]api.Value{}, args...), more)...))
			refuses(t, coded(code, append([]api.Value{more}, args...)...))
		}
	}
}

func TestNoCode(t *testing.T) {
	for _, code := range []int{-1, 24, 25, 100, 1 << 33, math.MaxInt, math.MinInt} {
		refuses(t, coded(code), coded(code, num(1)), coded(code, atom("x")))
	}
	refuses(t, coded(0, none()), coded(0, num(1)), coded(0, atom("x")))
	prints(t, coded(0), "* OK x")
	areBad(t, "* OK [] x", "* OK [ ] x", "* OK [FROB] x", "* OK [closed] x", "* OK [Closed] x", "* OK [CLOSED ] x", "* OK [CLOSED", "* OK [CLOSED]", "* OK [[CLOSED]] x", "* OK [-] x")
}

// P15.2: arguments of another kind than the code's.
func TestWrongArguments(t *testing.T) {
	for _, v := range []api.Value{none(), atom("1"), str("1"), list(), list(num(1)), num(-1), num(most + 1), num(math.MaxInt), num(math.MinInt)} {
		for _, code := range []int{api.CodeNext, api.CodeValidity, api.CodeUnseen, api.CodeModseq} {
			refuses(t, coded(code, v))
		}
		refuses(t, coded(api.CodeAppend, v, atom("1")), coded(api.CodeCopy, v, atom("1"), atom("1")))
	}
	for _, v := range []api.Value{none(), num(1), str("1"), list(), atoms("1")} {
		refuses(t, coded(api.CodeModified, v), coded(api.CodeAppend, num(1), v), coded(api.CodeCopy, num(1), v, atom("1")), coded(api.CodeCopy, num(1), atom("1"), v))
	}
	for _, v := range []api.Value{none(), num(1), str("x"), atom("x"), list(none()), list(num(1)), list(str("x")), list(list()), list(atoms("x"))} {
		refuses(t, coded(api.CodePermanent, v), coded(api.CodeCharset, v))
	}
	for _, v := range []api.Value{none(), num(1), str("x"), list(), atoms("x")} {
		refuses(t, coded(api.CodeCapability, v), coded(api.CodeCapability, atom("x"), v), coded(api.CodeCapability, v, atom("x")))
	}
	areBad(t, "* OK [UIDNEXT] x", "* OK [UIDNEXT x] x", "* OK [UIDNEXT 01] x", "* OK [UIDNEXT 4294967296] x", "* OK [UIDNEXT -1] x", "* OK [UIDNEXT (1)] x", `* OK [UIDNEXT "1"] x`, "* OK [UIDNEXT NIL] x", "* OK [UIDNEXT 1 2] x", "* OK [UIDNEXT  1] x", "* OK [UIDNEXT 1:2] x")
	areBad(t, "* OK [PERMANENTFLAGS] x", "* OK [PERMANENTFLAGS x] x", "* OK [PERMANENTFLAGS ()()] x", "* OK [PERMANENTFLAGS () ()] x", "* OK [PERMANENTFLAGS ( )] x", `* OK [PERMANENTFLAGS (\)] x`, `* OK [PERMANENTFLAGS ("x")] x`, "* OK [PERMANENTFLAGS (] x", "* OK [PERMANENTFLAGS (x] x", "* OK [PERMANENTFLAGS x)] x", "* OK [PERMANENTFLAGS (x y)z] x")
	areBad(t, "* OK [CAPABILITY] x", "* OK [CAPABILITY ] x", "* OK [CAPABILITY 5] x", "* OK [CAPABILITY nil] x", "* OK [CAPABILITY NIL] x", "* OK [CAPABILITY x 5] x", `* OK [CAPABILITY \x] x`, "* OK [CAPABILITY (x)] x", `* OK [CAPABILITY "x"] x`, "* OK [CAPABILITY x  y] x")
	areBad(t, "* OK [BADCHARSET] x", "* OK [BADCHARSET x] x", "* OK [BADCHARSET (5)] x", "* OK [BADCHARSET (nil)] x", `* OK [BADCHARSET (\x)] x`, "* OK [BADCHARSET ((x))] x")
}

// P15.2: a set is an atom whose text is the set in its one form, whatever it looks like.
func TestSetArguments(t *testing.T) {
	many := "1"
	for n := 2; n <= api.MaxRanges; n++ {
		many += "," + strconv.Itoa(n)
	}
	for _, set := range []string{"5", "4294967295", "1:2", "2:1", "1,1", "1:4294967295,7", many} {
		prints(t, coded(api.CodeModified, atom(set)), "* OK [MODIFIED "+set+"] x")
		prints(t, coded(api.CodeAppend, num(5), atom(set)), "* OK [APPENDUID 5 "+set+"] x")
		prints(t, coded(api.CodeCopy, num(5), atom(set), atom("5")), "* OK [COPYUID 5 "+set+" 5] x")
		prints(t, coded(api.CodeCopy, num(5), atom("5"), atom(set)), "* OK [COPYUID 5 5 "+set+"] x")
	}
	for _, set := range []string{"", "0", "*", "1:*", "*:1", "5:5", "1,7:7", "01", "1:02", "1:0", "4294967296", "1,", ",1", "1:", ":1", "1:2:3", "1 2", " 1", "x", "NIL", "1.2", "(1)", `"1"`, many + ",65", times(5000, "1,") + "1"} {
		refuses(t, coded(api.CodeModified, atom(set)), coded(api.CodeAppend, num(5), atom(set)), coded(api.CodeCopy, num(5), atom(set), atom("5")), coded(api.CodeCopy, num(5), atom("5"), atom(set)))
		areBad(t, "* OK [MODIFIED "+set+"] x", "* OK [APPENDUID 1 "+set+"] x", "* OK [COPYUID 1 1 "+set+"] x")
		if set != "" && set != "1 2" && set != " 1" {
			areBad(t, "* OK [COPYUID 1 "+set+" 1] x")
		}
	}
	areBad(t, "* OK [APPENDUID 1:2 1] x", "* OK [APPENDUID 1] x", "* OK [APPENDUID 1 1 1] x", "* OK [COPYUID 1 1] x", "* OK [COPYUID 1 1 1 1] x", "* OK [COPYUID 1:2 1 1] x", "* OK [MODIFIED] x", "* OK [MODIFIED ] x", "* OK [MODIFIED 1 1] x")
}
