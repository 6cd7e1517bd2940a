package command_test

import (
	"slices"
	"strconv"
	"strings"
	"testing"

	"postbag/api"
)

// items are those of kinds alone.
func items(kinds ...int) []api.Item {
	var list []api.Item
	for _, kind := range kinds {
		list = append(list, api.Item{Kind: kind})
	}
	return list
}

func fetch(list ...api.Item) api.Command {
	return api.Command{Verb: api.VerbFetch, Set: ranges(1, 1), Items: list}
}

// P14.1, P14.2: each item by a name alone, as itself and in a list; ALL, FAST and FULL by themselves.
func TestItems(t *testing.T) {
	names := map[string]int{
		"FLAGS": api.ItemFlags, "UID": api.ItemUid, "INTERNALDATE": api.ItemDate, "RFC822.SIZE": api.ItemSize,
		"ENVELOPE": api.ItemEnvelope, "BODY": api.ItemBody, "BODYSTRUCTURE": api.ItemStructure,
		"RFC822.HEADER": api.ItemHeader, "RFC822.TEXT": api.ItemText, "RFC822": api.ItemWhole, "MODSEQ": api.ItemModseq,
	}
	for name, kind := range names {
		one, two := items(kind), items(kind, api.ItemUid, kind)
		changed := fetch(one...)
		changed.Changed = is("5")
		byUid := fetch(two...)
		byUid.Uid, byUid.Changed = true, is("4294967295")
		held(t, []reading{
			{"a FETCH 1 " + name, nil, fetch(one...)},
			{"a FETCH 1 (" + name + ")", nil, fetch(one...)},
			{"a FETCH 1 (" + name + " UID " + name + ")", nil, fetch(two...)},
			{"a FETCH 1 " + name + " (CHANGEDSINCE 5)", nil, changed},
			{"a FETCH 1 (" + name + ") (CHANGEDSINCE 5)", nil, changed},
			{"a UID FETCH 1 (" + name + " UID " + name + ") (CHANGEDSINCE 4294967295)", nil, byUid},
		})
		refused(t, "a FETCH 1 \""+name+"\"", "a FETCH 1 (\""+name+"\")", "a FETCH 1 "+name+" "+name, "a FETCH 1 "+name+"x", "a FETCH 1 "+name+" []", "a FETCH 1 "+name+"()", "a FETCH 1 "+name+"<0.1>", "a FETCH 1 "+name+".PEEK", "a FETCH 1 (("+name+"))", "a FETCH 1 ["+name+"]", "a FETCH 1 ("+name+" ALL)", "a FETCH 1 ("+name+" x)", "a FETCH 1 ("+name+")(CHANGEDSINCE 5)", "a FETCH 1 "+name+"(CHANGEDSINCE 5)", "a FETCH 1("+name+")", "a FETCH 1 ("+name+" (CHANGEDSINCE 5))", "a FETCH 1 ("+name+") ("+name+")")
		if kind != api.ItemBody {
			refused(t, "a FETCH 1 "+name+"[]", "a FETCH 1 "+name+".PEEK[]", "a FETCH 1 ("+name+"[1])")
		}
	}
	short := map[string][]api.Item{
		"FAST": items(api.ItemFlags, api.ItemDate, api.ItemSize),
		"ALL":  items(api.ItemFlags, api.ItemDate, api.ItemSize, api.ItemEnvelope),
		"FULL": items(api.ItemFlags, api.ItemDate, api.ItemSize, api.ItemEnvelope, api.ItemBody),
	}
	for name, list := range short {
		changed := fetch(list...)
		changed.Changed = is("0")
		held(t, []reading{{"a FETCH 1 " + name, nil, fetch(list...)}, {"a FETCH 1 " + name + " (CHANGEDSINCE 0)", nil, changed}})
		refused(t, "a FETCH 1 ("+name+")", "a FETCH 1 (UID "+name+")", "a FETCH 1 "+name+" UID", "a FETCH 1 "+name+" (UID)", "a FETCH 1 "+name+"[]", "a FETCH 1 "+name+"(CHANGEDSINCE 0)", "a FETCH 1 \""+name+"\"", "a FETCH 1 "+name+" "+name)
	}
	held(t, []reading{
		{"a FETCH 1 (" + row(api.MaxItems, "UID") + ")", nil, fetch(slices.Repeat(items(api.ItemUid), api.MaxItems)...)},
		{"a FETCH 1 (" + row(api.MaxItems, "BODY[]<0.1>") + ")", nil, fetch(slices.Repeat([]api.Item{{Kind: api.ItemSection, Partial: true, N: 1}}, api.MaxItems)...)},
	})
	refused(t, "a FETCH", "a FETCH 1", "a FETCH UID", "a FETCH 1 ()", "a FETCH 1 x", "a FETCH 0 UID", "a FETCH 1: UID", "a FETCH (1) UID", "a FETCH \"1\" UID", "a FETCH 1 ("+row(api.MaxItems+1, "UID")+")", "a FETCH 1 (CHANGEDSINCE 5)", "a FETCH 1 (CHANGEDSINCE 5) UID")
	for _, wrong := range []string{"()", "(CHANGEDSINCE)", "(CHANGEDSINCE 05)", "(CHANGEDSINCE 4294967296)", "(CHANGEDSINCE -1)", "(CHANGEDSINCE 1 2)", "(CHANGEDSINCE \"1\")", "(CHANGEDSINCE (1))", "(CHANGEDSINCE x)", "(UNCHANGEDSINCE 1)", "(\"CHANGEDSINCE\" 1)", "[CHANGEDSINCE 1]", "CHANGEDSINCE 1", "(1)", "(CHANGEDSINCE 1) x", "(CHANGEDSINCE 1) (CHANGEDSINCE 1)", "(CHANGEDSINCE 1)()", "(CHANGEDSINCE[1])"} {
		refused(t, "a FETCH 1 UID "+wrong, "a FETCH 1 (UID) "+wrong, "a UID FETCH 1 ALL "+wrong)
	}
	refusedWith(t, []string{"UID"}, "a FETCH 1 {3}", "a FETCH 1 ({3})")
	refusedWith(t, []string{"1"}, "a FETCH {1} UID", "a FETCH 1 UID (CHANGEDSINCE {1})")
}

// P14.1, P14.2: BODY and BODY.PEEK with a bracket: parts, names, fields, pieces of them.
func TestSections(t *testing.T) {
	for place, is := range map[string]bool{
		"": true, "1": true, "1.2.3": true, "4294967295": true, "10.20": true, "1" + times(300, ".7"): true,
		"0": false, "01": false, "1.0": false, "1.01": false, "4294967296": false, "1.4294967296": false, ".": false, "1.": false, ".1": false, "1..2": false, "-1": false, "+1": false, "1,2": false, "1:2": false, "*": false, "x": false, "1.x": false, "99999999999999999999": false, "1.1x": false,
	} {
		for name, kind := range map[string]int{
			"": api.SectionWhole, "HEADER": api.SectionHeader, "TEXT": api.SectionText, "MIME": api.SectionMime,
			"HEADER.FIELDS (to)": api.SectionFields, "HEADER.FIELDS.NOT (to)": api.SectionOthers,
		} {
			text := place + "." + name
			if place == "" || name == "" {
				text = place + name
			}
			want := api.Item{Kind: api.ItemSection, Section: api.Section{Place: place, Kind: kind}}
			if strings.Contains(name, "(") {
				want.Section.Names = []string{"to"}
			}
			if !is || place == "" && kind == api.SectionMime {
				refused(t, "a FETCH 1 BODY["+text+"]", "a FETCH 1 (BODY.PEEK["+text+"]<0.1>)")
				continue
			}
			peek := want
			peek.Peek = true
			part := peek
			part.Partial, part.From, part.N = true, 5, 7
			held(t, []reading{
				{"a FETCH 1 BODY[" + text + "]", nil, fetch(want)},
				{"a FETCH 1 BODY.PEEK[" + text + "]", nil, fetch(peek)},
				{"a FETCH 1 BODY.PEEK[" + text + "]<5.7>", nil, fetch(part)},
				{"a FETCH 1 (UID BODY.PEEK[" + text + "]<5.7> BODY BODY[" + text + "] BODY.PEEK[" + text + "])", nil, fetch(api.Item{Kind: api.ItemUid}, part, api.Item{Kind: api.ItemBody}, want, peek)},
			})
		}
	}
	for _, wrong := range []string{"x", "HEADERS", "HEADER.", ".HEADER", "HEADER.1", "HEADER.TEXT", "1HEADER", "1.HEADER.2", "1.HEADERX", "HEADER TEXT", "HEADER (to)", "TEXT (to)", "1 (to)", "1.MIME (to)", "HEADER.FIELDS", "1.HEADER.FIELDS", "HEADER.FIELDS ()", "HEADER.FIELDS.NOT ()", "HEADER.FIELDS(to)", "HEADER.FIELDS to", "HEADER.FIELDS (\"to\")", "HEADER.FIELDS (to \"x\")", "HEADER.FIELDS ((to))", "HEADER.FIELDS (to())", "HEADER.FIELDS [to]", "HEADER.FIELDS (to) (cc)", "HEADER.FIELDS (to) x", "HEADER.FIELDS (to)x", "HEADER.FIELDS (to%)", "HEADER.FIELDS (\\to)", "HEADER.FIELDS (*)", "HEADER.FIELDS.NO (to)", "HEADER.FIELDS.NOT.NOT (to)", "HEADER.FIELDS.NOT", "\"HEADER\"", "\"\"", "(HEADER)", "()", "[]", "[1]", "1 2", "1 HEADER", "1 .HEADER", "BODY", "ALL", "1.2.MIME.HEADER", "FIELDS (to)"} {
		refused(t, "a FETCH 1 BODY["+wrong+"]", "a FETCH 1 (BODY.PEEK["+wrong+"])")
	}
	refusedWith(t, []string{"to"}, "a FETCH 1 BODY[HEADER.FIELDS ({2})]", "a FETCH 1 BODY[{2}]")
	refused(t, "a FETCH 1 BODY []", "a FETCH 1 (BODY [])", "a FETCH 1 BODY.PEEK", "a FETCH 1 (BODY.PEEK)", "a FETCH 1 BODY.PEEK []", "a FETCH 1 BODY()", "a FETCH 1 BODY.PEEK()", "a FETCH 1 BODY[][]", "a FETCH 1 (BODY[][])", "a FETCH 1 []", "a FETCH 1 ([])", "a FETCH 1 BODY[]()", "a FETCH 1 BODY[]\"x\"", "a FETCH 1 BODY.PEEKX[]", "a FETCH 1 XBODY[]", "a FETCH 1 BODY.[]", "a FETCH 1 \"BODY\"[]", "a FETCH 1 BODY.PEEK(UID)", "a FETCH 1 BODY.PEEK\"\"")
	held(t, []reading{
		{"a FETCH 1 BODY[HEADER.FIELDS (To cc TO nil +x <y> a.b 1)]", nil, fetch(api.Item{Kind: api.ItemSection, Section: api.Section{Kind: api.SectionFields, Names: []string{"To", "cc", "TO", "nil", "+x", "<y>", "a.b", "1"}}})},
	})
}

// P14.1: which bytes of a section are meant.
func TestPartials(t *testing.T) {
	for _, n := range []struct{ from, n int }{{0, 1}, {0, api.MaxNumber}, {api.MaxNumber, api.MaxNumber}, {1, 1}, {10, 200}} {
		item := api.Item{Kind: api.ItemSection, Partial: true, From: n.from, N: n.n}
		held(t, []reading{{"a FETCH 1 BODY[]<" + strconv.Itoa(n.from) + "." + strconv.Itoa(n.n) + ">", nil, fetch(item)}})
	}
	for _, wrong := range []string{"<0.0>", "<1>", "<1.>", "<.1>", "<>", "<.>", "<1.2", "1.2>", "1.2", "<<1.2>", "<1.2>>", "<00.1>", "<0.01>", "<01.1>", "<-1.1>", "<1.-1>", "<4294967296.1>", "<0.4294967296>", "<1.2.3>", "<1,2>", "<1:2>", "<a.b>", "<1.2>x", "x<1.2>", "<1.2><1.2>", "[]", "()", "\"<1.2>\"", " <1.2>", "(<1.2>)", "<1.2>[]", "<1.2>(UID)", "<1.2>\"\""} {
		refused(t, "a FETCH 1 BODY[]"+wrong, "a FETCH 1 (BODY.PEEK[1]"+wrong+")", "a FETCH 1 (UID BODY[]"+wrong+" UID)")
	}
	refused(t, "a FETCH 1 BODY<1.2>", "a FETCH 1 BODY<1.2>[]", "a FETCH 1 BODY.PEEK<1.2>", "a FETCH 1 UID<1.2>")
	refusedWith(t, []string{"<1.2>"}, "a FETCH 1 BODY[]{5}")
}
