package command_test

import (
	"slices"
	"strconv"
	"strings"
	"testing"

	"postbag/api"
	"postbag/command"
)

type reading struct {
	line     string
	literals []string
	want     api.Command // without its tag, which is a
}

func held(t *testing.T, rows []reading) {
	t.Helper()
	for _, row := range rows {
		row.want.Tag = "a"
		for _, line := range []string{row.line, "a " + strings.ToLower(row.line[2:])} {
			if line != row.line && hasCase(row.want) {
				continue
			}
			c, e := command.Read(line, row.literals)
			if e != api.OK || shown(c) != shown(row.want) {
				t.Errorf("Read(%.100q): %s, %d, not %s", line, shown(c), e, shown(row.want))
			}
		}
		form, e := command.Print(row.want)
		if e != api.OK {
			t.Errorf("Print(%s): %d", shown(row.want), e)
			continue
		}
		line, literals := parted(t, form)
		if c, e := command.Read(line, literals); e != api.OK || shown(c) != shown(row.want) {
			t.Errorf("Read of %.100q: %s, %d, not %s", form, shown(c), e, shown(row.want))
		}
	}
}

// hasCase tells whether a command has a text of a client's in large letters, which a line in small letters would not give.
func hasCase(c api.Command) bool {
	c.Tag, c.Key = "", api.Key{}
	texts := []string{c.Name, c.To, c.User, c.Pass, c.Ref, c.Pattern, c.Charset.S}
	texts = slices.Concat(texts, c.Flags, c.Names)
	for _, item := range c.Items {
		texts = append(texts, item.Section.Names...)
	}
	all := strings.Join(texts, "")
	return strings.ToLower(all) != all
}

func ranges(ends ...int) []api.Range {
	var set []api.Range
	for i := 0; i < len(ends); i += 2 {
		set = append(set, api.Range{From: ends[i], To: ends[i+1]})
	}
	return set
}

func is(s string) api.Text { return api.Text{Is: true, S: s} }

// P14.1, P14.2: verbs without arguments.
func TestPlainVerbs(t *testing.T) {
	verbs := map[string]int{
		"CAPABILITY": api.VerbCapability, "NOOP": api.VerbNoop, "LOGOUT": api.VerbLogout, "CHECK": api.VerbCheck,
		"CLOSE": api.VerbClose, "UNSELECT": api.VerbUnselect, "EXPUNGE": api.VerbExpunge, "IDLE": api.VerbIdle,
		"NAMESPACE": api.VerbNamespace,
	}
	for name, verb := range verbs {
		held(t, []reading{{"a " + name, nil, api.Command{Verb: verb}}})
		refused(t, "a "+name+" x", "a "+name+" ()", "a "+name+" \"\"", "a "+name+"()", "a "+name+"[]", "a "+name+" ", "a  "+name, "a \""+name+"\"", "a ("+name+")", "a "+name+"x", "a "+name[1:], "a UID "+name)
		refusedWith(t, []string{name}, "a {"+strconv.Itoa(len(name))+"}")
		refusedWith(t, []string{""}, "a "+name+" {0}", "a "+name+"{0}")
	}
}

// P14.1, P14.2: verbs whose arguments are texts and patterns.
func TestTextVerbs(t *testing.T) {
	held(t, []reading{
		{"a LOGIN joe \"p w\"", nil, api.Command{Verb: api.VerbLogin, User: "joe", Pass: "p w"}},
		{"a LOGIN \"\" \"\"", nil, api.Command{Verb: api.VerbLogin}},
		{"a LOGIN {3} {0+}", []string{"j\r\n", ""}, api.Command{Verb: api.VerbLogin, User: "j\r\n"}},
		{"a LOGIN {003+} x", []string{"\xff\n\r"}, api.Command{Verb: api.VerbLogin, User: "\xff\n\r", Pass: "x"}},
		{"a LOGIN \"nil\" \"a\\\"b\\\\\"", nil, api.Command{Verb: api.VerbLogin, User: "nil", Pass: "a\"b\\"}},
		{"a SELECT x", nil, api.Command{Verb: api.VerbSelect, Name: "x"}},
		{"a SELECT InBox (CONDSTORE)", nil, api.Command{Verb: api.VerbSelect, Name: "InBox", Condstore: true}},
		{"a SELECT x (CONDSTORE)", nil, api.Command{Verb: api.VerbSelect, Name: "x", Condstore: true}},
		{"a EXAMINE \"a b\"", nil, api.Command{Verb: api.VerbExamine, Name: "a b"}},
		{"a EXAMINE {1+} (CONDSTORE)", []string{"z"}, api.Command{Verb: api.VerbExamine, Name: "z", Condstore: true}},
		{"a CREATE x/", nil, api.Command{Verb: api.VerbCreate, Name: "x/"}},
		{"a DELETE &-", nil, api.Command{Verb: api.VerbDelete, Name: "&-"}},
		{"a SUBSCRIBE \"%\"", nil, api.Command{Verb: api.VerbSubscribe, Name: "%"}},
		{"a UNSUBSCRIBE {2}", []string{"\xc3\xa4"}, api.Command{Verb: api.VerbUnsubscribe, Name: "\xc3\xa4"}},
		{"a CREATE +", nil, api.Command{Verb: api.VerbCreate, Name: "+"}},
		{"a CREATE nilx", nil, api.Command{Verb: api.VerbCreate, Name: "nilx"}},
		{"a RENAME x y", nil, api.Command{Verb: api.VerbRename, Name: "x", To: "y"}},
		{"a RENAME {1} {2}", []string{"1", "22"}, api.Command{Verb: api.VerbRename, Name: "1", To: "22"}},
		{"a LIST \"\" %/*", nil, api.Command{Verb: api.VerbList, Pattern: "%/*"}},
		{"a LIST ref x", nil, api.Command{Verb: api.VerbList, Ref: "ref", Pattern: "x"}},
		{"a LIST \"\" nil", nil, api.Command{Verb: api.VerbList, Pattern: "nil"}},
		{"a LIST \"\" \"\"", nil, api.Command{Verb: api.VerbList}},
		{"a LSUB {1} {1}", []string{"r", "*"}, api.Command{Verb: api.VerbLsub, Ref: "r", Pattern: "*"}},
		{"a LSUB \"%\" \"a b\"", nil, api.Command{Verb: api.VerbLsub, Ref: "%", Pattern: "a b"}},
		{"a ENABLE condstore", nil, api.Command{Verb: api.VerbEnable, Names: []string{"condstore"}}},
		{"a ENABLE CONDSTORE nil x+y CONDSTORE", nil, api.Command{Verb: api.VerbEnable, Names: []string{"CONDSTORE", "nil", "x+y", "CONDSTORE"}}},
	})
	for _, name := range []string{"CREATE", "DELETE", "SUBSCRIBE", "UNSUBSCRIBE", "SELECT", "EXAMINE"} {
		refused(t, "a "+name, "a "+name+" ", "a "+name+" x y", "a "+name+" NIL", "a "+name+" nIl", "a "+name+" (x)", "a "+name+" [x]", "a "+name+" x[]", "a "+name+" x()", "a "+name+" %", "a "+name+" a*", "a "+name+" \\x", "a "+name+"\"x\"", "a "+name+" x\"y\"", "a "+name+" \"x\"y", "a "+name+" \"\xe4\"", "a "+name+" \xe4", "a UID "+name+" x")
		refusedWith(t, []string{"x", "y"}, "a "+name+" {1}{1}", "a "+name+" {1} {1}")
		refusedWith(t, []string{"x\x00"}, "a "+name+" {2}")
		refusedWith(t, []string{"x"}, "a "+name+"{1}", "a "+name+" {1}(CONDSTORE)", "a "+name+" {2}")
	}
	for _, name := range []string{"CREATE", "DELETE", "SUBSCRIBE", "UNSUBSCRIBE"} {
		refused(t, "a "+name+" x (CONDSTORE)")
	}
	for _, name := range []string{"SELECT", "EXAMINE"} {
		refused(t, "a "+name+" x ()", "a "+name+" x CONDSTORE", "a "+name+" x (CONDSTORE CONDSTORE)", "a "+name+" x (CONDSTORE x)", "a "+name+" x (x)", "a "+name+" x (\"CONDSTORE\")", "a "+name+" x ((CONDSTORE))", "a "+name+" x [CONDSTORE]", "a "+name+" x(CONDSTORE)", "a "+name+" (CONDSTORE)", "a "+name+" x (CONDSTORE) y", "a "+name+" x (CONDSTORE)(CONDSTORE)", "a "+name+" x (CONDSTORES)")
		refusedWith(t, []string{"CONDSTORE"}, "a "+name+" x ({9})")
	}
	for _, name := range []string{"LOGIN", "RENAME", "LIST", "LSUB"} {
		refused(t, "a "+name, "a "+name+" x", "a "+name+" x y z", "a "+name+" x (y)", "a "+name+" x(y)", "a "+name+" (x y)", "a "+name+" x y ", "a "+name+" x  y", "a "+name+" nil y", "a "+name+" % y", "a "+name+" x y()", "a "+name+" x \\y", "a "+name+" x \"y", "a "+name+" x y{0}", "a UID "+name+" x y")
		refusedWith(t, []string{"\x00"}, "a "+name+" {1} x", "a "+name+" x {1}", "a "+name+" \"\" {1+}")
	}
	refused(t, "a LOGIN x nil", "a LOGIN x %", "a RENAME x NIL", "a RENAME x *", "a LIST \"\" a]", "a LIST \"\" a\\b", "a LIST * x", "a LSUB \"\" (x)")
	refused(t, "a ENABLE", "a ENABLE \"x\"", "a ENABLE x \"y\"", "a ENABLE (x)", "a ENABLE x (y)", "a ENABLE x%", "a ENABLE \\x", "a ENABLE *", "a ENABLE x y ", "a ENABLE x()", "a UID ENABLE x")
	refusedWith(t, []string{"x"}, "a ENABLE {1}")
}

// P14.1, P14.2: STATUS, with each of its items, in any order, none twice.
func TestStatus(t *testing.T) {
	names := []string{"", "MESSAGES", "RECENT", "UIDNEXT", "UIDVALIDITY", "UNSEEN", "HIGHESTMODSEQ"}
	numbers := []int{0, api.StatusMessages, api.StatusRecent, api.StatusNext, api.StatusValidity, api.StatusUnseen, api.StatusModseq}
	for i := 1; i < len(names); i++ {
		held(t, []reading{{"a STATUS x (" + names[i] + ")", nil, api.Command{Verb: api.VerbStatus, Name: "x", Status: []int{numbers[i]}}}})
		refused(t, "a STATUS x ("+names[i]+" "+strings.ToLower(names[i])+")", "a STATUS x "+names[i], "a STATUS x (\""+names[i]+"\")", "a STATUS x(\""+names[i]+"\")", "a STATUS ("+names[i]+")", "a STATUS x (("+names[i]+"))", "a STATUS x ["+names[i]+"]", "a STATUS x ("+names[i]+") y", "a STATUS x ("+names[i]+"x)", "a STATUS x ("+names[i]+"())")
		for j := 1; j < len(names); j++ {
			if i != j {
				held(t, []reading{{"a STATUS x (" + names[i] + " " + names[j] + ")", nil, api.Command{Verb: api.VerbStatus, Name: "x", Status: []int{numbers[i], numbers[j]}}}})
				refused(t, "a STATUS x ("+names[i]+" "+names[j]+" "+names[i]+")", "a STATUS x ("+names[i]+" "+names[j]+" "+names[j]+")")
			}
		}
	}
	held(t, []reading{
		{"a STATUS \"a b\" (HIGHESTMODSEQ UNSEEN UIDVALIDITY UIDNEXT RECENT MESSAGES)", nil, api.Command{Verb: api.VerbStatus, Name: "a b", Status: []int{6, 5, 4, 3, 2, 1}}},
		{"a STATUS {1} (UNSEEN)", []string{"("}, api.Command{Verb: api.VerbStatus, Name: "(", Status: []int{5}}},
	})
	refused(t, "a STATUS", "a STATUS x", "a STATUS x ()", "a STATUS x (UID)", "a STATUS (UNSEEN) x", "a UID STATUS x (UNSEEN)", "a STATUS nil (UNSEEN)")
}

// P14.1, P14.2: APPEND, with and without flags and date, in their order only.
func TestAppend(t *testing.T) {
	date := api.Moment{Year: 2026, Month: 2, Day: 1, Hour: 10}
	late := api.Moment{Year: 9999, Month: 12, Day: 31, Hour: 23, Minute: 59, Second: 59, Zone: -1439}
	held(t, []reading{
		{"a APPEND x {1}", []string{"b"}, api.Command{Verb: api.VerbAppend, Name: "x", Body: "b"}},
		{"a APPEND {1} {0+}", []string{"x", ""}, api.Command{Verb: api.VerbAppend, Name: "x"}},
		{"a APPEND x () {2}", []string{"\r\n"}, api.Command{Verb: api.VerbAppend, Name: "x", Body: "\r\n"}},
		{"a APPEND x (\\Seen) \" 1-Feb-2026 10:00:00 +0000\" {1}", []string{"b"}, api.Command{Verb: api.VerbAppend, Name: "x", Flags: []string{"\\Seen"}, Dated: true, Date: date, Body: "b"}},
		{"a APPEND x \"01-FEB-2026 10:00:00 -0000\" {1}", []string{"b"}, api.Command{Verb: api.VerbAppend, Name: "x", Dated: true, Date: date, Body: "b"}},
		{"a APPEND x (k \\draft K) \"31-Dec-9999 23:59:59 -2359\" {3}", []string{"(x)"}, api.Command{Verb: api.VerbAppend, Name: "x", Flags: []string{"k", "\\draft", "K"}, Dated: true, Date: late, Body: "(x)"}},
		{"a APPEND \"\" {16384}", []string{times(api.MaxLiteral, "\xff")}, api.Command{Verb: api.VerbAppend, Body: times(api.MaxLiteral, "\xff")}},
		{"a APPEND x (" + row(api.MaxFlags, "\\seen") + ") {1}", []string{"b"}, api.Command{Verb: api.VerbAppend, Name: "x", Flags: repeated(api.MaxFlags, "\\seen"), Body: "b"}},
	})
	refused(t, "a APPEND", "a APPEND x", "a APPEND x b", "a APPEND x \"b\"", "a APPEND x (b)", "a APPEND x () \" 1-Feb-2026 10:00:00 +0000\"", "a APPEND x \" 1-Feb-2026 10:00:00 +0000\"")
	refusedWith(t, []string{"b"}, "a APPEND {1}", "a APPEND x{1}", "a APPEND x {1} y", "a APPEND x {1}()", "a APPEND x {1} ()", "a APPEND x (){1}", "a APPEND x() {1}", "a UID APPEND x {1}", "a APPEND nil {1}", "a APPEND x ({1})", "a APPEND x \" 1-Feb-2026 10:00:00 +0000\" () {1}", "a APPEND x \" 1-Feb-2026 10:00:00 +0000\"{1}", "a APPEND x () () {1}", "a APPEND x \"1-Feb-2026 10:00:00 +0000\" {1}", "a APPEND x \"30-Feb-2026 10:00:00 +0000\" {1}", "a APPEND x \"\" {1}", "a APPEND x \" 1-Feb-2026 10:00:00 +0000\" \" 1-Feb-2026 10:00:00 +0000\" {1}", "a APPEND x 01-Feb-2026 {1}", "a APPEND x b {1}", "a APPEND x [] {1}", "a APPEND x (\\Recent) {1}", "a APPEND x (\\x) {1}", "a APPEND x (\"k\") {1}", "a APPEND x (%) {1}", "a APPEND x (a()) {1}", "a APPEND x ((a)) {1}", "a APPEND x (\\) {1}", "a APPEND x (nil*) {1}", "a APPEND x ("+row(api.MaxFlags+1, "k")+") {1}", "a APPEND x ("+times(api.MaxKeyword+1, "k")+") {1}")
	refusedWith(t, []string{"b\x00"}, "a APPEND x {2}")
	refusedWith(t, []string{"x", "b"}, "a APPEND x {1} {1}", "a APPEND x ({1}) {1}")
	refusedWith(t, []string{" 1-Feb-2026 10:00:00 +0000", "b"}, "a APPEND x {26} {1}")
	held(t, []reading{{"a APPEND x (" + times(api.MaxKeyword, "k") + " nil) {1}", []string{"b"}, api.Command{Verb: api.VerbAppend, Name: "x", Flags: []string{times(api.MaxKeyword, "k"), "nil"}, Body: "b"}}})
}

func all() api.Key { return api.Key{Kind: api.KeyAll} }

func keySet(ends ...int) api.Key { return api.Key{Kind: api.KeySet, Set: ranges(ends...)} }

// P14.1, P14.2: SEARCH, SORT and THREAD, with UID and without.
func TestSearching(t *testing.T) {
	from := api.Key{Kind: api.KeyFrom, Text: "joe"}
	for _, isUid := range []bool{false, true} {
		word := "a "
		if isUid {
			word = "a UID "
		}
		search := func(c api.Command) api.Command { c.Verb, c.Uid = api.VerbSearch, isUid; return c }
		sort := func(c api.Command) api.Command { c.Verb, c.Uid = api.VerbSort, isUid; return c }
		thread := func(c api.Command) api.Command { c.Verb, c.Uid = api.VerbThread, isUid; return c }
		held(t, []reading{
			{word + "SEARCH ALL", nil, search(api.Command{Key: all()})},
			{word + "SEARCH (ALL)", nil, search(api.Command{Key: all()})},
			{word + "SEARCH 2:* FROM \"joe\"", nil, search(api.Command{Key: api.Key{Kind: api.KeyAnd, Kids: []api.Key{keySet(2, 0), from}}})},
			{word + "SEARCH CHARSET utf-8 FROM {3}", []string{"joe"}, search(api.Command{Charset: is("utf-8"), Key: from})},
			{word + "SEARCH CHARSET \"\" 1", nil, search(api.Command{Charset: is(""), Key: keySet(1, 1)})},
			{word + "SEARCH CHARSET {7} 1", []string{"charset"}, search(api.Command{Charset: is("charset"), Key: keySet(1, 1)})},
			{word + "SEARCH RETURN () 1", nil, search(api.Command{Returning: true, Key: keySet(1, 1)})},
			{word + "SEARCH RETURN (MIN) 1", nil, search(api.Command{Returning: true, Returns: []int{api.ReturnMin}, Key: keySet(1, 1)})},
			{word + "SEARCH RETURN (COUNT ALL MAX MIN) ALL", nil, search(api.Command{Returning: true, Returns: []int{api.ReturnCount, api.ReturnAll, api.ReturnMax, api.ReturnMin}, Key: all()})},
			{word + "SEARCH RETURN (ALL) CHARSET return ALL", nil, search(api.Command{Returning: true, Returns: []int{api.ReturnAll}, Charset: is("return"), Key: all()})},
			{word + "SEARCH KEYWORD return", nil, search(api.Command{Key: api.Key{Kind: api.KeyFlag, Text: "return"}})},
			{word + "SEARCH SEEN", nil, search(api.Command{Key: api.Key{Kind: api.KeyFlag, Text: "\\Seen"}})},
			{word + "SORT (DATE) us-ascii ALL", nil, sort(api.Command{By: []api.By{{Kind: api.ByDate}}, Charset: is("us-ascii"), Key: all()})},
			{word + "SORT (REVERSE ARRIVAL CC REVERSE DATE FROM SIZE SUBJECT REVERSE TO) \"x y\" 1 2", nil, sort(api.Command{By: []api.By{{Kind: api.ByArrival, Reverse: true}, {Kind: api.ByCc}, {Kind: api.ByDate, Reverse: true}, {Kind: api.ByFrom}, {Kind: api.BySize}, {Kind: api.BySubject}, {Kind: api.ByTo, Reverse: true}}, Charset: is("x y"), Key: api.Key{Kind: api.KeyAnd, Kids: []api.Key{keySet(1, 1), keySet(2, 2)}}})},
			{word + "SORT (" + row(api.MaxBys, "REVERSE SIZE") + ") {0} ALL", []string{""}, sort(api.Command{By: slices.Repeat([]api.By{{Kind: api.BySize, Reverse: true}}, api.MaxBys), Charset: is(""), Key: all()})},
			{word + "THREAD REFERENCES utf-8 ALL", nil, thread(api.Command{Algorithm: api.ThreadReferences, Charset: is("utf-8"), Key: all()})},
			{word + "THREAD ORDEREDSUBJECT \"\" NOT (NEW OLD)", nil, thread(api.Command{Algorithm: api.ThreadSubject, Charset: is(""), Key: api.Key{Kind: api.KeyNot, Kids: []api.Key{{Kind: api.KeyAnd, Kids: []api.Key{{Kind: api.KeyNew}, {Kind: api.KeyOld}}}}}})},
		})
		refused(t, word+"SEARCH", word+"SEARCH ()", word+"SEARCH x", word+"SEARCH \"ALL\"", word+"SEARCH ALL()", word+"SEARCH(ALL)", word+"SEARCH ALL ", word+"SEARCH RETURN", word+"SEARCH RETURN ()", word+"SEARCH RETURN 1", word+"SEARCH RETURN MIN ALL", word+"SEARCH RETURN[] ALL", word+"SEARCH RETURN() ALL", word+"SEARCH RETURN [MIN] ALL", word+"SEARCH RETURN (MIN min) ALL", word+"SEARCH RETURN (MIN MAX ALL COUNT COUNT) ALL", word+"SEARCH RETURN (SAVE) ALL", word+"SEARCH RETURN (\"MIN\") ALL", word+"SEARCH RETURN (MIN()) ALL", word+"SEARCH RETURN (MIN)(ALL)", word+"SEARCH RETURN () RETURN () ALL", word+"SEARCH ALL RETURN ()", word+"SEARCH (RETURN ()) ALL", word+"SEARCH \"RETURN\" () ALL",
			word+"SEARCH CHARSET", word+"SEARCH CHARSET utf-8", word+"SEARCH CHARSET NIL ALL", word+"SEARCH CHARSET (x) ALL", word+"SEARCH CHARSET\"x\" ALL", word+"SEARCH CHARSET \"x\"(ALL)", word+"SEARCH CHARSET a CHARSET b ALL", word+"SEARCH CHARSET a RETURN () ALL", word+"SEARCH \"CHARSET\" a ALL", word+"SEARCH ALL CHARSET a", word+"SEARCH "+row(9, "NOT")+" ALL", word+"SEARCH "+row(33, "ALL"))
		refused(t, word+"SORT", word+"SORT (DATE)", word+"SORT (DATE) x", word+"SORT () x ALL", word+"SORT DATE x ALL", word+"SORT (DATE) ALL", word+"SORT (DATE) nil ALL", word+"SORT (x) x ALL", word+"SORT(DATE) x ALL", word+"SORT (DATE)\"x\" ALL", word+"SORT (DATE) \"x\"(ALL)", word+"SORT [DATE] x ALL", word+"SORT x (DATE) ALL", word+"SORT (REVERSE) x ALL", word+"SORT (\"DATE\") x ALL", word+"SORT (DATE) (x) ALL", word+"SORT ("+row(api.MaxBys+1, "DATE")+") x ALL", word+"SORT ("+row(2*api.MaxBys+1, "DATE")+") x ALL", word+"SORT RETURN () (DATE) x ALL", word+"SORT (DATE) x ALL ")
		refused(t, word+"THREAD", word+"THREAD REFERENCES", word+"THREAD REFERENCES x", word+"THREAD REFERENCES x ()", word+"THREAD x x ALL", word+"THREAD (REFERENCES) x ALL", word+"THREAD \"REFERENCES\" x ALL", word+"THREAD REFERENCES nil ALL", word+"THREAD REFERENCES\"x\" ALL", word+"THREAD REFERENCES ORDEREDSUBJECT x ALL", word+"THREAD x REFERENCES ALL", word+"THREAD REFERENCES[] x ALL")
		refusedWith(t, []string{"\x00"}, word+"SEARCH FROM {1}", word+"SEARCH CHARSET {1} ALL", word+"SORT (DATE) {1} ALL", word+"THREAD REFERENCES {1} ALL")
		refusedWith(t, []string{"MIN"}, word+"SEARCH RETURN ({3}) ALL")
	}
}

// P14.1, P14.2: COPY, MOVE and UID EXPUNGE; what may not stand behind UID.
func TestSets(t *testing.T) {
	for _, row := range []struct {
		line string
		c    api.Command
	}{
		{"COPY 1:2,*:7 x", api.Command{Verb: api.VerbCopy, Set: ranges(1, 2, 0, 7), Name: "x"}},
		{"MOVE * \"a b\"", api.Command{Verb: api.VerbMove, Set: ranges(0, 0), Name: "a b"}},
	} {
		held(t, []reading{{"a " + row.line, nil, row.c}})
		row.c.Uid = true
		held(t, []reading{{"a UID " + row.line, nil, row.c}})
	}
	held(t, []reading{
		{"a UID EXPUNGE 5:5,4294967295", nil, api.Command{Verb: api.VerbExpunge, Uid: true, Set: ranges(5, 5, api.MaxNumber, api.MaxNumber)}},
		{"a COPY " + strings.TrimSuffix(times(api.MaxRanges, "1,"), ",") + " x", nil, api.Command{Verb: api.VerbCopy, Set: slices.Repeat(ranges(1, 1), api.MaxRanges), Name: "x"}},
		{"a UID COPY 1 {1}", []string{"\xff"}, api.Command{Verb: api.VerbCopy, Uid: true, Set: ranges(1, 1), Name: "\xff"}},
	})
	for _, name := range []string{"COPY", "MOVE", "UID COPY", "UID MOVE"} {
		refused(t, "a "+name, "a "+name+" 1", "a "+name+" x", "a "+name+" x 1", "a "+name+" 0 x", "a "+name+" 01 x", "a "+name+" 1 x y", "a "+name+" 1 nil", "a "+name+" 1 %", "a "+name+" (1) x", "a "+name+" 1 (x)", "a "+name+" \"1\" x", "a "+name+" 1\"x\"", "a "+name+" 1,2 , x", "a "+name+" 1: x", "a "+name+" 1x x", "a "+name+" 4294967296 x", "a "+name+" "+times(api.MaxRanges, "1,")+"1 x", "a "+name+" 1 x()")
		refusedWith(t, []string{"1"}, "a "+name+" {1} x", "a "+name+" 1{1}")
	}
	refused(t, "a EXPUNGE 1", "a UID EXPUNGE", "a UID EXPUNGE x", "a UID EXPUNGE 1 2", "a UID EXPUNGE (1)", "a UID EXPUNGE \"1\"", "a UID EXPUNGE 0", "a UID EXPUNGE 1()")
	refused(t, "a UID", "a UID ", "a UID UID FETCH 1 UID", "a UID x", "a \"UID\" COPY 1 x", "a UID \"COPY\" 1 x", "a UID(COPY 1 x)", "a UID (COPY) 1 x", "a UIDCOPY 1 x", "a UID  COPY 1 x", "a (UID) COPY 1 x", "a COPY UID 1 x")
}

// P14.1, P14.2: STORE in all its modes, with flags in brackets and without.
func TestStore(t *testing.T) {
	modes := map[string]int{"FLAGS": 0, "+FLAGS": 1, "-FLAGS": -1}
	for name, mode := range modes {
		for _, silent := range []string{"", ".SILENT"} {
			for _, word := range []string{"a STORE 2:* ", "a UID STORE 2:* "} {
				want := api.Command{Verb: api.VerbStore, Uid: strings.Contains(word, "UID"), Set: ranges(2, 0), Mode: mode, Silent: silent != ""}
				name := name + silent
				held(t, []reading{{word + name + " ()", nil, want}})
				want.Flags = []string{"\\seen", "work"}
				held(t, []reading{{word + name + " (\\seen work)", nil, want}, {word + name + " \\seen work", nil, want}})
				want.Unchanged = is("0")
				held(t, []reading{{word + "(UNCHANGEDSINCE 0) " + name + " (\\seen work)", nil, want}})
				want.Unchanged, want.Flags = is("4294967295"), nil
				held(t, []reading{{word + "(UNCHANGEDSINCE 4294967295) " + name + " ()", nil, want}})
				refused(t, word+name, word+name+" ", word+name+"()", word+name+" (k) k", word+name+" k (k)", word+name+" k()", word+name+" [k]", word+name+" \"k\"", word+name+" (\"k\")", word+name+" (k k[])", word+name+" ((k))", word+name+" \\Recent", word+name+" (\\recent)", word+name+" \\x", word+name+" (k \\x)", word+name+" (\\)", word+name+" k%", word+name+" (k*)", word+name+" "+times(25, "k"), word+name+" ("+row(17, "k")+")", word+name+" "+row(17, "\\Seen"), word+name+"x (k)", word+"\""+name+"\" (k)", word+name+" () ()", word+"x"+name+" (k)",
					word+name+" (UNCHANGEDSINCE 1) ()", word+"(UNCHANGEDSINCE 1)", word+"(UNCHANGEDSINCE 1) (UNCHANGEDSINCE 1) "+name+" ()", word+"(UNCHANGEDSINCE) "+name+" ()", word+"(UNCHANGEDSINCE 1 2) "+name+" ()", word+"(UNCHANGEDSINCE 01) "+name+" ()", word+"(UNCHANGEDSINCE 4294967296) "+name+" ()", word+"(UNCHANGEDSINCE x) "+name+" ()", word+"(UNCHANGEDSINCE \"1\") "+name+" ()", word+"(UNCHANGEDSINCE(1)) "+name+" ()", word+"(CHANGEDSINCE 1) "+name+" ()", word+"(\"UNCHANGEDSINCE\" 1) "+name+" ()", word+"UNCHANGEDSINCE 1 "+name+" ()", word+"[UNCHANGEDSINCE 1] "+name+" ()", word+"() "+name+" ()", word+"(1 UNCHANGEDSINCE) "+name+" ()")
				refusedWith(t, []string{"k"}, word+name+" {1}", word+name+" ({1})")
				refusedWith(t, []string{"1"}, word+"(UNCHANGEDSINCE {1}) "+name+" ()")
				want.Unchanged, want.Flags = api.Text{}, repeated(16, "\\draft")
				held(t, []reading{{word + name + " " + row(16, "\\draft"), nil, want}, {word + name + " (" + row(16, "\\draft") + ")", nil, want}})
			}
		}
	}
	refused(t, "a STORE", "a STORE 1", "a STORE FLAGS ()", "a STORE 1 FLAG ()", "a STORE 1 *FLAGS ()", "a STORE 1 ++FLAGS ()", "a STORE 1 FLAGS.SILENT.SILENT ()", "a STORE 1 .SILENT ()", "a STORE 1 FLAGS. ()", "a STORE x FLAGS ()", "a STORE 1 + FLAGS ()", "a STORE 1(UNCHANGEDSINCE 1) FLAGS ()", "a STORE (UNCHANGEDSINCE 1) 1 FLAGS ()", "a STORE 1 SILENT ()")
}
