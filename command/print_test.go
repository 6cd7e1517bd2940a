package command_test

import (
	"reflect"
	"slices"
	"strings"
	"testing"

	"postbag/api"
	"postbag/command"
)

// P14.3: the one form of every verb.
func TestForms(t *testing.T) {
	date := api.Moment{Year: 2026, Month: 2, Day: 1, Hour: 9, Minute: 5, Zone: -90}
	section := api.Item{Kind: api.ItemSection, Peek: true, Section: api.Section{Place: "1", Kind: api.SectionFields, Names: []string{"To", "cc"}}, Partial: true, N: 9}
	for _, row := range []struct {
		c    api.Command
		form string
	}{
		{api.Command{Verb: api.VerbCapability}, "CAPABILITY"},
		{api.Command{Verb: api.VerbNoop}, "NOOP"},
		{api.Command{Verb: api.VerbLogout}, "LOGOUT"},
		{api.Command{Verb: api.VerbCheck}, "CHECK"},
		{api.Command{Verb: api.VerbClose}, "CLOSE"},
		{api.Command{Verb: api.VerbUnselect}, "UNSELECT"},
		{api.Command{Verb: api.VerbExpunge}, "EXPUNGE"},
		{api.Command{Verb: api.VerbIdle}, "IDLE"},
		{api.Command{Verb: api.VerbNamespace}, "NAMESPACE"},
		{api.Command{Verb: api.VerbLogin, User: "joe", Pass: "p w"}, "LOGIN joe \"p w\""},
		{api.Command{Verb: api.VerbLogin, User: "\r\n"}, "LOGIN {2+}\r\n\r\n \"\""},
		{api.Command{Verb: api.VerbSelect, Name: "a b", Condstore: true}, "SELECT \"a b\" (CONDSTORE)"},
		{api.Command{Verb: api.VerbExamine, Name: "NIL"}, "EXAMINE \"NIL\""},
		{api.Command{Verb: api.VerbCreate, Name: "\xe4"}, "CREATE {1+}\r\n\xe4"},
		{api.Command{Verb: api.VerbDelete, Name: "a\"\\"}, "DELETE \"a\\\"\\\\\""},
		{api.Command{Verb: api.VerbSubscribe, Name: "a]"}, "SUBSCRIBE \"a]\""},
		{api.Command{Verb: api.VerbUnsubscribe, Name: "%"}, "UNSUBSCRIBE \"%\""},
		{api.Command{Verb: api.VerbRename, Name: "inbox", To: "\n"}, "RENAME inbox {1+}\r\n\n"},
		{api.Command{Verb: api.VerbList, Pattern: "%/*"}, "LIST \"\" %/*"},
		{api.Command{Verb: api.VerbList, Ref: "nil", Pattern: "nil"}, "LIST \"nil\" nil"},
		{api.Command{Verb: api.VerbLsub, Ref: "%", Pattern: "a b"}, "LSUB \"%\" \"a b\""},
		{api.Command{Verb: api.VerbLsub, Ref: "\xff", Pattern: "\xff"}, "LSUB {1+}\r\n\xff {1+}\r\n\xff"},
		{api.Command{Verb: api.VerbLsub, Ref: "x"}, "LSUB x \"\""},
		{api.Command{Verb: api.VerbStatus, Name: "x", Status: []int{6, 5, 4, 3, 2, 1}}, "STATUS x (HIGHESTMODSEQ UNSEEN UIDVALIDITY UIDNEXT RECENT MESSAGES)"},
		{api.Command{Verb: api.VerbAppend, Name: "x", Body: "b"}, "APPEND x {1+}\r\nb"},
		{api.Command{Verb: api.VerbAppend, Name: "x", Flags: []string{"k", "\\seen", "K"}, Dated: true, Date: date}, "APPEND x (k \\seen K) \" 1-Feb-2026 09:05:00 -0130\" {0+}\r\n"},
		{api.Command{Verb: api.VerbSearch, Key: all()}, "SEARCH ALL"},
		{api.Command{Verb: api.VerbSearch, Uid: true, Returning: true, Charset: is("UTF-8"), Key: keySet(4, 2, 7, 7, 0, 9)}, "UID SEARCH RETURN () CHARSET UTF-8 4:2,7,*:9"},
		{api.Command{Verb: api.VerbSearch, Returning: true, Returns: []int{4, 3, 2, 1}, Charset: is(""), Key: api.Key{Kind: api.KeyFrom, Text: "joe"}}, "SEARCH RETURN (COUNT ALL MAX MIN) CHARSET \"\" FROM \"joe\""},
		{api.Command{Verb: api.VerbSearch, Key: api.Key{Kind: api.KeyAnd, Kids: []api.Key{{Kind: api.KeyOr, Kids: []api.Key{{Kind: api.KeyAnd, Kids: []api.Key{all(), {Kind: api.KeyHeader, Field: "\x80", Text: "{1}"}}}, {Kind: api.KeyBody, Text: "\r"}}}, {Kind: api.KeyLarger, Num: 0}}}}, "SEARCH OR (ALL HEADER {1+}\r\n\x80 \"{1}\") BODY {1+}\r\n\r LARGER 0"},
		{api.Command{Verb: api.VerbFetch, Set: ranges(1, 0), Items: items(1, 2, 3, 4, 5, 6, 7, 9, 10, 11, 12)}, "FETCH 1:* (FLAGS UID INTERNALDATE RFC822.SIZE ENVELOPE BODY BODYSTRUCTURE RFC822.HEADER RFC822.TEXT RFC822 MODSEQ)"},
		{api.Command{Verb: api.VerbFetch, Uid: true, Set: ranges(1, 1), Items: items(1, 3, 4, 5), Changed: is("5")}, "UID FETCH 1 (FLAGS INTERNALDATE RFC822.SIZE ENVELOPE) (CHANGEDSINCE 5)"},
		{fetch(section, api.Item{Kind: api.ItemSection}, api.Item{Kind: api.ItemBody}), "FETCH 1 (BODY.PEEK[1.HEADER.FIELDS (To cc)]<0.9> BODY[] BODY)"},
		{fetch(api.Item{Kind: api.ItemSection, Section: api.Section{Kind: api.SectionOthers, Names: []string{"x"}}}, api.Item{Kind: api.ItemSection, Section: api.Section{Kind: api.SectionHeader}}, api.Item{Kind: api.ItemSection, Section: api.Section{Place: "1.2", Kind: api.SectionText}}, api.Item{Kind: api.ItemSection, Section: api.Section{Place: "3", Kind: api.SectionMime}}, api.Item{Kind: api.ItemSection, Section: api.Section{Place: "4.5"}, Partial: true, From: api.MaxNumber, N: api.MaxNumber}), "FETCH 1 (BODY[HEADER.FIELDS.NOT (x)] BODY[HEADER] BODY[1.2.TEXT] BODY[3.MIME] BODY[4.5]<4294967295.4294967295>)"},
		{api.Command{Verb: api.VerbStore, Set: ranges(1, 1), Flags: []string{"\\seen", "Work"}}, "STORE 1 FLAGS (\\seen Work)"},
		{api.Command{Verb: api.VerbStore, Uid: true, Set: ranges(2, 2), Mode: 1, Unchanged: is("0")}, "UID STORE 2 (UNCHANGEDSINCE 0) +FLAGS ()"},
		{api.Command{Verb: api.VerbStore, Set: ranges(3, 3), Mode: -1, Silent: true, Flags: []string{"a"}}, "STORE 3 -FLAGS.SILENT (a)"},
		{api.Command{Verb: api.VerbCopy, Set: ranges(5, 5), Name: "x"}, "COPY 5 x"},
		{api.Command{Verb: api.VerbMove, Uid: true, Set: ranges(0, 0), Name: "a b"}, "UID MOVE * \"a b\""},
		{api.Command{Verb: api.VerbSort, By: []api.By{{Kind: 1, Reverse: true}, {Kind: 2}, {Kind: 3}, {Kind: 4}, {Kind: 5}, {Kind: 6}, {Kind: 7}}, Charset: is("x"), Key: all()}, "SORT (REVERSE ARRIVAL CC DATE FROM SIZE SUBJECT TO) x ALL"},
		{api.Command{Verb: api.VerbThread, Uid: true, Algorithm: 1, Charset: is("nil"), Key: all()}, "UID THREAD ORDEREDSUBJECT \"nil\" ALL"},
		{api.Command{Verb: api.VerbThread, Algorithm: 2, Charset: is(""), Key: api.Key{Kind: api.KeyNot, Kids: []api.Key{{Kind: api.KeyFlag, Text: "\\Seen"}}}}, "THREAD REFERENCES \"\" NOT SEEN"},
		{api.Command{Verb: api.VerbEnable, Names: []string{"CONDSTORE", "x"}}, "ENABLE CONDSTORE x"},
		{api.Command{Verb: api.VerbExpunge, Uid: true, Set: ranges(1, 9)}, "UID EXPUNGE 1:9"},
	} {
		row.c.Tag = "t1"
		if form, e := command.Print(row.c); form != "t1 "+row.form+crlf || e != api.OK {
			t.Errorf("Print(%s): %q, %d, not %q", shown(row.c), form, e, row.form)
		}
	}
}

// samples is a command of each verb, with UID too, and the names of the fields that it keeps.
func samples(t *testing.T) map[string][]string {
	t.Helper()
	name := []string{"Name"}
	keys := []string{"Charset", "Key"}
	rows := map[string][]string{
		"CAPABILITY": nil, "NOOP": nil, "LOGOUT": nil, "CHECK": nil, "CLOSE": nil, "UNSELECT": nil, "EXPUNGE": nil,
		"IDLE": nil, "NAMESPACE": nil, "LOGIN u p": {"User", "Pass"}, "SELECT x": {"Name", "Condstore"},
		"EXAMINE x": {"Name", "Condstore"}, "CREATE x": name, "DELETE x": name, "SUBSCRIBE x": name,
		"UNSUBSCRIBE x": name, "RENAME x y": {"Name", "To"}, "LIST r p": {"Ref", "Pattern"}, "LSUB r p": {"Ref", "Pattern"},
		"STATUS x (UNSEEN)": {"Name", "Status"}, "ENABLE x": {"Names"}, "UID EXPUNGE 1": {"Set"},
		"APPEND x () \" 1-Feb-2026 10:00:00 +0000\" {0}": {"Name", "Flags", "Dated", "Date", "Body"},
		"APPEND x {0}": {"Name", "Flags", "Dated", "Body"},
	}
	for _, uid := range []string{"", "UID "} {
		rows[uid+"SEARCH RETURN (MIN) ALL"] = append([]string{"Returning", "Returns", "Uid"}, keys...)
		rows[uid+"SEARCH ALL"] = append([]string{"Returning", "Uid"}, keys...)
		rows[uid+"FETCH 1 UID"] = []string{"Set", "Items", "Changed", "Uid"}
		rows[uid+"STORE 1 FLAGS ()"] = []string{"Set", "Unchanged", "Mode", "Silent", "Flags", "Uid"}
		rows[uid+"COPY 1 x"] = []string{"Set", "Name", "Uid"}
		rows[uid+"MOVE 1 x"] = []string{"Set", "Name", "Uid"}
		rows[uid+"SORT (DATE) x ALL"] = append([]string{"By", "Uid"}, keys...)
		rows[uid+"THREAD REFERENCES x ALL"] = append([]string{"Algorithm", "Uid"}, keys...)
	}
	return rows
}

func sample(t *testing.T, line string) api.Command {
	t.Helper()
	return readOk(t, "a "+line, repeated(strings.Count(line, "{0}"), "")...)
}

// P14.2, P14.3: a field that the verb does not have is zero in what Read tells, and no form has it.
func TestFieldsOfOthers(t *testing.T) {
	filled := reflect.ValueOf(api.Command{
		Uid: true, Name: "x", To: "x", User: "x", Pass: "x", Ref: "x", Pattern: "x", Set: ranges(1, 1), Items: items(1), Mode: 1,
		Silent: true, Flags: []string{"k"}, Unchanged: is("1"), Changed: is("1"), Condstore: true, Key: all(), Charset: is("x"),
		By: []api.By{{Kind: 1}}, Algorithm: 1, Returns: []int{1}, Returning: true, Dated: true,
		Date: api.Moment{Year: 2026, Month: 2, Day: 1}, Body: "x", Status: []int{1}, Names: []string{"x"},
	})
	for line, kept := range samples(t) {
		c := sample(t, line)
		printOk(t, c)
		for i := range filled.NumField() {
			name := filled.Type().Field(i).Name
			if name == "Tag" || name == "Verb" || slices.Contains(kept, name) {
				continue
			}
			if got := reflect.ValueOf(c).Field(i); name != "Uid" && !got.IsZero() {
				t.Errorf("%s: %s is %v", line, name, got)
			}
			other := c
			field := reflect.ValueOf(&other).Elem().Field(i)
			field.Set(filled.Field(i))
			if name == "Uid" && c.Uid {
				field.SetBool(false)
			}
			printsNot(t, other)
		}
		for _, other := range []api.Text{{S: "1"}, {S: "x"}} {
			changed, unchanged, charset := c, c, c
			changed.Changed, unchanged.Unchanged, charset.Charset = other, other, other
			printsNot(t, changed)
			printsNot(t, unchanged)
			printsNot(t, charset)
		}
		for _, verb := range []int{-1 << 63, -1, 0, 30, 1<<63 - 1} {
			other := c
			other.Verb = verb
			printsNot(t, other)
		}
		for _, tag := range []string{"", "+", "a b", "a+", "*", times(api.MaxTag+1, "t"), "\xff", "a\r\nb", "a NOOP\r\nb", "a\x00", "\"", "a("} {
			other := c
			other.Tag = tag
			printsNot(t, other)
		}
	}
}

func printsNot(t *testing.T, c api.Command) {
	t.Helper()
	if form, e := command.Print(c); form != "" || e != api.ErrCommand {
		t.Errorf("Print(%.200s): %.100q, %d", shown(c), form, e)
	}
}

// P14.3: fields that the verb has, but not so.
func TestNoForm(t *testing.T) {
	change := func(line string, changes ...func(*api.Command)) {
		t.Helper()
		for i, f := range changes {
			c := sample(t, line)
			f(&c)
			if form, e := command.Print(c); form != "" || e != api.ErrCommand {
				t.Errorf("%s, change %d: Print(%.200s): %.100q, %d", line, i, shown(c), form, e)
			}
		}
	}
	zero, long := "x\x00", times(api.MaxLiteral+1, "\xff")
	for _, s := range []string{zero, "\x00", long, times(5000, "x"), times(5000, " ")} {
		change("LOGIN u p", func(c *api.Command) { c.User = s }, func(c *api.Command) { c.Pass = s })
		change("SELECT x", func(c *api.Command) { c.Name = s })
		change("RENAME x y", func(c *api.Command) { c.Name = s }, func(c *api.Command) { c.To = s })
		change("LIST x y", func(c *api.Command) { c.Ref = s }, func(c *api.Command) { c.Pattern = s })
		change("SORT (DATE) x ALL", func(c *api.Command) { c.Charset.S = s })
		change("SEARCH CHARSET x FROM y", func(c *api.Command) { c.Charset.S = s }, func(c *api.Command) { c.Key.Text = s })
	}
	change("APPEND x {0}", func(c *api.Command) { c.Body = zero }, func(c *api.Command) { c.Body = long }, func(c *api.Command) { c.Dated = true },
		func(c *api.Command) { c.Dated, c.Date = true, api.Moment{Year: 2026, Month: 2, Day: 30} }, func(c *api.Command) { c.Dated, c.Date = true, api.Moment{Year: 2026, Month: 2, Day: 3, Hour: 24} })
	for _, flags := range [][]string{{"\\Recent"}, {"\\x"}, {""}, {"a b"}, {"k", ""}, {"(k)"}, {"k)", "(k"}, {"\"k\""}, {"{0}"}, {"k%"}, {"\\"}, {times(25, "k")}, repeated(17, "k"), repeated(100000, "k"), {"k\r\n"}, {"\xff"}} {
		change("APPEND x {0}", func(c *api.Command) { c.Flags = flags })
		change("STORE 1 FLAGS ()", func(c *api.Command) { c.Flags = flags })
	}
	for _, set := range [][]api.Range{nil, ranges(-1, 1), ranges(1, api.MaxNumber+1), slices.Repeat(ranges(1, 1), api.MaxRanges+1), ranges(1, 1, 1, -1)} {
		for _, line := range []string{"FETCH 1 UID", "STORE 1 FLAGS ()", "COPY 1 x", "UID MOVE 1 x", "UID EXPUNGE 1"} {
			change(line, func(c *api.Command) { c.Set = set })
		}
		change("SEARCH 1", func(c *api.Command) { c.Key.Set = set })
	}
	for _, n := range []string{"", "05", "x", "-1", "4294967296", "5)", "5 ", " 5", "5) (CHANGEDSINCE 5", "\"5\"", "{0}"} {
		change("FETCH 1 UID", func(c *api.Command) { c.Changed = is(n) })
		change("STORE 1 FLAGS ()", func(c *api.Command) { c.Unchanged = is(n) })
	}
	for _, mode := range []int{-2, 2, -1 << 63, 1<<63 - 1} {
		change("STORE 1 FLAGS ()", func(c *api.Command) { c.Mode = mode })
	}
	for _, list := range [][]int{nil, {0}, {7}, {-1}, {1, 1}, {1, 2, 1}, {6, 5, 4, 3, 2, 1, 6}, slices.Repeat([]int{1}, 100000)} {
		change("STATUS x (UNSEEN)", func(c *api.Command) { c.Status = list })
	}
	for _, list := range [][]int{{0}, {5}, {-1}, {1, 1}, {4, 3, 2, 1, 4}, {1 << 62}} {
		change("SEARCH RETURN () ALL", func(c *api.Command) { c.Returns = list })
	}
	for _, key := range []api.Key{{}, {Kind: 28}, {Kind: api.KeyAnd}, {Kind: api.KeyAnd, Kids: []api.Key{all()}}, {Kind: api.KeyAll, Num: 1}, {Kind: api.KeyFrom, Text: times(api.MaxLiteral+1, "x")}, {Kind: api.KeyAnd, Kids: slices.Repeat([]api.Key{all()}, api.MaxKeys)}, {Kind: api.KeyNot}, {Kind: -1}} {
		for _, line := range []string{"SEARCH ALL", "UID SORT (DATE) x ALL", "THREAD REFERENCES x ALL"} {
			change(line, func(c *api.Command) { c.Key = key })
		}
	}
	for _, by := range [][]api.By{nil, {{}}, {{Kind: 8}}, {{Kind: -1}}, {{Reverse: true}}, slices.Repeat([]api.By{{Kind: 1}}, api.MaxBys+1), slices.Repeat([]api.By{{Kind: 1}}, 100000)} {
		change("SORT (DATE) x ALL", func(c *api.Command) { c.By = by })
	}
	for _, n := range []int{0, 3, -1, 1 << 40} {
		change("THREAD REFERENCES x ALL", func(c *api.Command) { c.Algorithm = n })
	}
	change("THREAD REFERENCES x ALL", func(c *api.Command) { c.Charset = api.Text{} })
	change("SORT (DATE) x ALL", func(c *api.Command) { c.Charset = api.Text{} }, func(c *api.Command) { c.Charset.Is = false })
	for _, names := range [][]string{nil, {""}, {"a", ""}, {"a b"}, {"\"a\""}, {"(a)"}, {"a%"}, {"\\a"}, {"\xff"}, {"a\r\nb NOOP"}, {"{0}"}, repeated(100000, "x")} {
		change("ENABLE x", func(c *api.Command) { c.Names = names })
		change("FETCH 1 BODY[HEADER.FIELDS (x)]", func(c *api.Command) { c.Items[0].Section.Names = names })
	}
	change("FETCH 1 UID", func(c *api.Command) { c.Items = nil }, func(c *api.Command) { c.Items = slices.Repeat(items(1), api.MaxItems+1) }, func(c *api.Command) { c.Items = slices.Repeat(items(1), 100000) })
	section := api.Item{Kind: api.ItemSection}
	for _, f := range []func(*api.Item){
		func(i *api.Item) { i.Kind = 0 }, func(i *api.Item) { i.Kind = 13 }, func(i *api.Item) { i.Kind = -1 },
		func(i *api.Item) { i.Kind, i.Peek = api.ItemBody, true }, func(i *api.Item) { i.Kind, i.Partial, i.N = api.ItemUid, true, 1 },
		func(i *api.Item) { i.Kind, i.From = api.ItemUid, 1 }, func(i *api.Item) { i.Kind, i.N = api.ItemUid, 1 },
		func(i *api.Item) { i.Kind, i.Section.Place = api.ItemUid, "1" }, func(i *api.Item) { i.Kind, i.Section.Kind = api.ItemUid, 1 },
		func(i *api.Item) { i.Kind, i.Section.Names = api.ItemUid, []string{"x"} },
		func(i *api.Item) { i.From = 1 }, func(i *api.Item) { i.N = 1 }, func(i *api.Item) { i.Partial = true },
		func(i *api.Item) { i.Partial, i.From, i.N = true, -1, 1 }, func(i *api.Item) { i.Partial, i.N = true, -1 },
		func(i *api.Item) { i.Partial, i.From, i.N = true, api.MaxNumber+1, 1 }, func(i *api.Item) { i.Partial, i.N = true, api.MaxNumber+1 },
		func(i *api.Item) { i.Section.Kind = 6 }, func(i *api.Item) { i.Section.Kind = -1 }, func(i *api.Item) { i.Section.Kind = api.SectionMime },
		func(i *api.Item) { i.Section.Kind = api.SectionFields }, func(i *api.Item) { i.Section.Kind = api.SectionOthers },
		func(i *api.Item) { i.Section.Names = []string{"x"} }, func(i *api.Item) { i.Section.Kind, i.Section.Names = api.SectionText, []string{"x"} },
		func(i *api.Item) { i.Section.Place = "0" }, func(i *api.Item) { i.Section.Place = "01" }, func(i *api.Item) { i.Section.Place = "1." },
		func(i *api.Item) { i.Section.Place = "HEADER" }, func(i *api.Item) { i.Section.Place = "1.HEADER" }, func(i *api.Item) { i.Section.Place = "1]" },
		func(i *api.Item) { i.Section.Place = "HEADER.FIELDS (x)" }, func(i *api.Item) { i.Section.Place = "1] BODY[1" }, func(i *api.Item) { i.Section.Place = "4294967296" },
	} {
		item := section
		f(&item)
		change("FETCH 1 UID", func(c *api.Command) { c.Items = []api.Item{item} }, func(c *api.Command) { c.Items = append(items(1), item) })
	}
	printsNot(t, api.Command{})
	printsNot(t, api.Command{Tag: "a"})
	printsNot(t, api.Command{Verb: api.VerbNoop})
}

// P14.3: forms just as long as may be, and longer by one.
func TestLongForms(t *testing.T) {
	fits := func(c api.Command, size int) {
		t.Helper()
		c.Tag = "a"
		if form, e := command.Print(c); e != api.OK || len(form) != size {
			t.Errorf("Print(%.100s): %d bytes, %d, not %d", shown(c), len(form), e, size)
		}
	}
	not := func(c api.Command) {
		t.Helper()
		c.Tag = "a"
		printsNot(t, c)
	}
	create := func(n int) api.Command { return api.Command{Verb: api.VerbCreate, Name: times(n, "x")} }
	fits(create(api.MaxLine-11), api.MaxLine)
	not(create(api.MaxLine - 10))
	quoted := func(n int) api.Command { return api.Command{Verb: api.VerbCreate, Name: times(n, "\"")} }
	fits(quoted((api.MaxLine-13)/2), api.MaxLine-1)
	not(quoted((api.MaxLine-13)/2 + 1))
	// The line ends behind two announcements count, too.
	login := func(n int) api.Command {
		return api.Command{Verb: api.VerbAppend, Name: times(n, "\xff"), Body: times(16000, "b"), Flags: []string{"k"}}
	}
	fits(login(16384), len("a APPEND {16384+}\r\n (k) {16000+}\r\n\r\n")+16384+16000)
	not(login(16385))
	many := func(n int) api.Command {
		return api.Command{Verb: api.VerbRename, Name: times(n, "x"), To: "\xff"}
	}
	fits(many(api.MaxLine-18), api.MaxLine+1)
	not(many(api.MaxLine - 17))
	search := func(n int) api.Command {
		key := func(n int) api.Key { return api.Key{Kind: api.KeyTo, Text: times(n, "\xff")} }
		return api.Command{Verb: api.VerbSearch, Key: api.Key{Kind: api.KeyAnd, Kids: []api.Key{key(16384), key(16384), key(n)}}}
	}
	rest := api.MaxCommand - 2*16384 - len("a SEARCH TO {16384+}\r\n TO {16384+}\r\n TO {1234+}\r\n\r\n")
	fits(search(rest), api.MaxCommand)
	not(search(rest + 1))
	names := func(n int) api.Command { return api.Command{Verb: api.VerbEnable, Names: repeated(n, "x")} }
	fits(names(api.MaxWords-2), len("a ENABLE\r\n")+2*(api.MaxWords-2))
	not(names(api.MaxWords - 1))
	// Read takes these: but in their one form there is one word more, the list around the item.
	line := "a FETCH 1 BODY[HEADER.FIELDS (" + row(api.MaxWords-7, "x") + ")]"
	printsNot(t, readOk(t, line))
	shorter := readOk(t, "a FETCH 1 BODY[HEADER.FIELDS ("+row(api.MaxWords-8, "x")+")]")
	printOk(t, shorter)
	refused(t, "a FETCH 1 BODY[HEADER.FIELDS ("+row(api.MaxWords-6, "x")+")]")
	// So do these: but their line ends do not fit.
	for n := range 4 {
		c := readOk(t, "a CREATE "+times(api.MaxLine-9-n, "x"))
		if form, e := command.Print(c); (e == api.OK) != (n >= 2) {
			t.Errorf("%d below: %d bytes, %d", n, len(form), e)
		}
	}
}
