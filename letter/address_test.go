package letter_test

import (
	"fmt"
	"math/rand/v2"
	"regexp"
	"slices"
	"strings"
	"testing"

	"postbag/api"
	"postbag/letter"
)

// told is addresses in one line, each by its four parts, - for one that is missing.
func told(list []api.Address) string {
	var out []string
	part := func(t api.Text) string {
		switch {
		case t.Is:
			return fmt.Sprintf("%q", t.S)
		case t.S != "":
			return fmt.Sprintf("missing, but %q", t.S)
		}
		return "-"
	}
	for _, a := range list {
		out = append(out, part(a.Name)+" "+part(a.Route)+" "+part(a.Box)+" "+part(a.Host))
	}
	return strings.Join(out, "; ")
}

// A row of pieces of the reference: a letter for each (s: space, t: a text, else the sign itself), and its text.
type wantRow struct {
	kinds string
	texts []string
}

func (w *wantRow) add(kind, text string) {
	w.kinds += kind
	w.texts = append(w.texts, text)
}

func (w wantRow) cut(from, to int) wantRow { return wantRow{w.kinds[from:to], w.texts[from:to]} }

func (w wantRow) isSpace() bool { return strings.Trim(w.kinds, "s") == "" }

// spaced is the text of a row: the space at its ends is nothing, all other one blank.
func (w wantRow) spaced() string {
	from := len(w.kinds) - len(strings.TrimLeft(w.kinds, "s"))
	out := ""
	for i := from; i < len(strings.TrimRight(w.kinds, "s")); i++ {
		if w.kinds[i] != 's' {
			out += w.texts[i]
		} else if w.kinds[i-1] != 's' {
			out += " "
		}
	}
	return out
}

func (w wantRow) closed() string { return strings.Join(w.texts, "") }

// wantComment is how long the comment is that a text begins with: by a call for each comment in it.
func wantComment(s string) int {
	i := 1
	for i < len(s) {
		switch s[i] {
		case ')':
			return i + 1
		case '(':
			i += wantComment(s[i:])
		case '\\':
			i += 2
		default:
			i++
		}
	}
	return len(s)
}

var (
	formOfSpace  = regexp.MustCompile(`\A[ \t\r\n)\]\\]`)
	formOfQuote  = regexp.MustCompile(`(?s)\A"((?:[^"\\]|\\.)*)(?:"|\\?\z)`)
	formOfHost   = regexp.MustCompile(`(?s)\A\[(?:[^\]\\]|\\.)*(?:\]|\\?\z)`)
	formOfSign   = regexp.MustCompile(`\A[<>:;@,.]`)
	formOfAtom   = regexp.MustCompile(`\A[^ \t\r\n()\[\]\\"<>:;@,.]+`)
	formOfEscape = regexp.MustCompile(`(?s)\\(.)`)
)

// wantPieces cuts by expressions, one for each kind.
func wantPieces(value string) wantRow {
	var w wantRow
	for rest := runes(value); rest != ""; {
		n := 0
		if rest[0] == '(' {
			n = wantComment(rest)
			w.add("s", "")
		} else if m := formOfSpace.FindString(rest); m != "" {
			n = len(m)
			w.add("s", "")
		} else if m := formOfQuote.FindStringSubmatch(rest); m != nil {
			n = len(m[0])
			w.add("t", bytesOf(formOfEscape.ReplaceAllString(m[1], "${1}")))
		} else if m := formOfHost.FindString(rest); m != "" {
			n = len(m)
			w.add("t", bytesOf(m))
		} else if m := formOfSign.FindString(rest); m != "" {
			n = len(m)
			w.add(m, m)
		} else {
			n = len(formOfAtom.FindString(rest))
			w.add("t", bytesOf(rest[:n]))
		}
		rest = rest[n:]
	}
	return w
}

var (
	formOfPart  = regexp.MustCompile(`\A(?:[^,;:<]|<[^>]*(?:>|\z))*`)
	formOfAngle = regexp.MustCompile(`\A([^<]*)<([^>]*)`)
	formOfRoute = regexp.MustCompile(`\A(s*@[^:]*):`)
)

func some(s string) api.Text { return api.Text{Is: true, S: s} }

func wantAddress(w wantRow) api.Address {
	var a api.Address
	if m := formOfAngle.FindStringSubmatchIndex(w.kinds); m != nil {
		if name := w.cut(m[2], m[3]); !name.isSpace() {
			a.Name = some(name.spaced())
		}
		w = w.cut(m[4], m[5])
		if m := formOfRoute.FindStringSubmatchIndex(w.kinds); m != nil {
			a.Route = some(w.cut(m[2], m[3]).closed())
			w = w.cut(m[1], len(w.kinds))
		}
	}
	a.Box, a.Host = some(w.spaced()), some("")
	if at := strings.LastIndexByte(w.kinds, '@'); at >= 0 {
		a.Box, a.Host = some(w.cut(0, at).closed()), some(w.cut(at+1, len(w.kinds)).closed())
	}
	return a
}

// wantAddresses writes all of them down, however many, and cuts at last.
func wantAddresses(value string) []api.Address {
	var all []api.Address
	group := false
	for w, over := wantPieces(value), false; !over; {
		n := len(formOfPart.FindString(w.kinds))
		part, end := w.cut(0, n), w.cut(n, min(n+1, len(w.kinds))).kinds
		w, over = w.cut(n+len(end), len(w.kinds)), end == ""
		if end == ":" && !group {
			all = append(all, api.Address{Box: some(part.spaced())})
			group = true
			continue
		}
		if !part.isSpace() {
			all = append(all, wantAddress(part))
		}
		if group && (over || end == ";") {
			all = append(all, api.Address{})
			group = false
		}
	}
	return all[:min(len(all), 32)]
}

// lookAtAddresses: P5.6, P5.13.
func lookAtAddresses(t *testing.T, value string) {
	t.Helper()
	want := wantAddresses(value)
	for range 2 {
		got := letter.Addresses(value)
		if !slices.Equal(got, want) {
			t.Errorf("Addresses(%.200q): %.300s\nnot %.300s", value, told(got), told(want))
		}
		lookAtGroups(t, value, got)
		overwrite(got)
	}
}

// lookAtGroups: groups' beginnings and ends come in turn, a beginning first, and an end behind each as far as there is room: P5.13.
func lookAtGroups(t *testing.T, value string, list []api.Address) {
	t.Helper()
	group := false
	for i, a := range list {
		begins, ends := !a.Host.Is && a.Box.Is, !a.Host.Is && !a.Box.Is
		if begins && group || ends && !group || !a.Host.Is && (a.Name.Is || a.Route.Is) {
			t.Errorf("Addresses(%.200q): at %d: %.300s", value, i, told(list))
		}
		group = begins || group && !ends
	}
	if group && len(list) < api.MaxAddress {
		t.Errorf("Addresses(%.200q): a group without an end: %.300s", value, told(list))
	}
}

// tellAddresses holds answers against what stands here, and against the reference.
func tellAddresses(t *testing.T, rows [][2]string) {
	t.Helper()
	for _, row := range rows {
		if got := told(letter.Addresses(row[0])); got != row[1] {
			t.Errorf("Addresses(%q): %s\nnot %s", row[0], got, row[1])
		}
		lookAtAddresses(t, row[0])
	}
}

// P5.6: the examples.
func TestAddresses(t *testing.T) {
	tellAddresses(t, [][2]string{
		{`Joe Q. Public <joe@x.y>, (c) "a b"@[1.2]`, `"Joe Q. Public" - "joe" "x.y"; - - "a b" "[1.2]"`},
		{`A: b@c, D <@x,@y:e@f>;, g`, `- - "A" -; - - "b" "c"; "D" "@x,@y" "e" "f"; - - - -; - - "g" ""`},
		{`<>`, `- - "" ""`},
		{`,`, ``},
		{`a:`, `- - "a" -; - - - -`},
		{`a b`, `- - "a b" ""`},
		{`a@b@c`, `- - "a@b" "c"`},
		{`x <a@b> y, <c@d, e@f`, `"x" - "a" "b"; - - "c@d,e" "f"`},
		{``, ``},
		{` `, ``},
		{`a`, `- - "a" ""`},
	})
}

// P5.6: each kind of piece, ended and not.
func TestPieces(t *testing.T) {
	tellAddresses(t, [][2]string{
		// space and comments
		{" \t\r\n", ``},
		{" \ta\r\n b \n", `- - "a b" ""`},
		{"a\x0bb\x0c\x00", `- - "a\vb\f\x00" ""`},
		{"a\u00a0b", `- - "a\u00a0b" ""`},
		{`(a@b)`, ``},
		{`()`, ``},
		{`(`, ``},
		{`(\`, ``},
		{`(\)`, ``},
		{`(\)a`, ``},
		{`(\))a`, `- - "a" ""`},
		{`(\\)a`, `- - "a" ""`},
		{`(\()a`, `- - "a" ""`},
		{`(a(b)c)d`, `- - "d" ""`},
		{`(a(b)c`, ``},
		{`(((a)))b((c))`, `- - "b" ""`},
		{`(")a"(")b`, `- - "a( b" ""`},
		{`([)a`, `- - "a" ""`},
		{`(,;:<)a`, `- - "a" ""`},
		{`a(b)c`, `- - "a c" ""`},
		{`a(b)c@d`, `- - "ac" "d"`},
		{`a (b) (c) d`, `- - "a d" ""`},
		{`a(b`, `- - "a" ""`},
		{`(a)(b)`, ``},
		// quoted texts
		{`""`, `- - "" ""`},
		{`"`, `- - "" ""`},
		{`"a`, `- - "a" ""`},
		{`"a\`, `- - "a" ""`},
		{`"\`, `- - "" ""`},
		{`"\"`, `- - "\"" ""`},
		{`"a\"b\\c\d"`, `- - "a\"b\\cd" ""`},
		{`"a b  c"`, `- - "a b  c" ""`},
		{`"a, b; c: <d@e> (f) [g]"`, `- - "a, b; c: <d@e> (f) [g]" ""`},
		{`"a"b`, `- - "ab" ""`},
		{`a"b"`, `- - "ab" ""`},
		{`"a""b"`, `- - "ab" ""`},
		{`"a" "b"`, `- - "a b" ""`},
		{`"a" "" "b"`, `- - "a  b" ""`},
		{`"" ""`, `- - " " ""`},
		{"\"a\r\n b\"", `- - "a\r\n b" ""`},
		{"\"\xff\\\xfe\x00\"", `- - "\xff\xfe\x00" ""`},
		// literal hosts
		{`a@[1.2]`, `- - "a" "[1.2]"`},
		{`[]`, `- - "[]" ""`},
		{`[`, `- - "[" ""`},
		{`[a`, `- - "[a" ""`},
		{`[a\`, `- - "[a\\" ""`},
		{`[\`, `- - "[\\" ""`},
		{`[\]`, `- - "[\\]" ""`},
		{`[\]]`, `- - "[\\]]" ""`},
		{`[a\\]b`, `- - "[a\\\\]b" ""`},
		{`[[]]`, `- - "[[]" ""`},
		{`[a b, c; d: "e (f) <g@h>]`, `- - "[a b, c; d: \"e (f) <g@h>]" ""`},
		{"[\xff\r\n]", `- - "[\xff\r\n]" ""`},
		// what is left over
		{`) a`, `- - "a" ""`},
		{`a)b`, `- - "a b" ""`},
		{`a]b`, `- - "a b" ""`},
		{`a\b`, `- - "a b" ""`},
		{`a\`, `- - "a" ""`},
		{`\"a"`, `- - "a" ""`},
		{`)`, ``},
		{`])\`, ``},
		{`(a))b`, `- - "b" ""`},
		// signs and atoms
		{`.`, `- - "." ""`},
		{`a.b`, `- - "a.b" ""`},
		{`a . b`, `- - "a . b" ""`},
		{`a . b@c . d`, `- - "a.b" "c.d"`},
		{`>`, `- - ">" ""`},
		{`!#$%&'*+-/=?^_{|}~`, "- - \"!#$%&'*+-/=?^_{|}~\" \"\""},
		{"é\xff\x7f", `- - "é\xff\x7f" ""`},
	})
}

// P5.6: parts, angles, routes, places.
func TestParts(t *testing.T) {
	tellAddresses(t, [][2]string{
		{`,,`, ``},
		{`;`, ``},
		{`a,,b`, `- - "a" ""; - - "b" ""`},
		{`a, (c) ,b,`, `- - "a" ""; - - "b" ""`},
		{`a;b`, `- - "a" ""; - - "b" ""`},
		{`a ; ; b`, `- - "a" ""; - - "b" ""`},
		{`"",b`, `- - "" ""; - - "b" ""`},
		// angles
		{`<`, `- - "" ""`},
		{`< >`, `- - "" ""`},
		{`<a`, `- - "a" ""`},
		{`<a@b`, `- - "a" "b"`},
		{`<a,b;c:d`, `- - "a,b;c:d" ""`},
		{`<a@b, c`, `- - "a" "b,c"`},
		{`<a>,b`, `- - "a" ""; - - "b" ""`},
		{`<a> b@c, d`, `- - "a" ""; - - "d" ""`},
		{`<a> > b, d`, `- - "a" ""; - - "d" ""`},
		{`a > b, c`, `- - "a > b" ""; - - "c" ""`},
		{`a> <b>`, `"a>" - "b" ""`},
		{`<a> <b, c>, d`, `- - "a" ""; - - "d" ""`},
		{`<a> <b, c`, `- - "a" ""`},
		{`x <a <b> c, d> e`, `"x" - "a <b" ""; - - "d> e" ""`},
		{`<<a@b>>, c`, `- - "<a" "b"; - - "c" ""`},
		{`a <b> : c ; d`, `- - "a <b>" -; - - "c" ""; - - - -; - - "d" ""`},
		{`a <b,c;d:e>`, `"a" - "b,c;d:e" ""`},
		{`a <"b>c">`, `"a" - "b>c" ""`},
		{`a <(b>c)d>`, `"a" - "d" ""`},
		{`"<" a`, `- - "< a" ""`},
		// names
		{`(n) <a>`, `- - "a" ""`},
		{` <a>`, `- - "a" ""`},
		{`"" <a>`, `"" - "a" ""`},
		{`a(c)b <a>`, `"a b" - "a" ""`},
		{` a  "b  c" . d <a>`, `"a b  c . d" - "a" ""`},
		{`a@b <c>`, `"a@b" - "c" ""`},
		{`[a b]<c>`, `"[a b]" - "c" ""`},
		// routes
		{`<@a:b@c>`, `- "@a" "b" "c"`},
		{`<@a,@b:c@d>`, `- "@a,@b" "c" "d"`},
		{`< (c) @ a , @ b : c @ d >`, `- "@a,@b" "c" "d"`},
		{`<@a:b>`, `- "@a" "b" ""`},
		{`<@a: b c >`, `- "@a" "b c" ""`},
		{`<@a:>`, `- "@a" "" ""`},
		{`<@:>`, `- "@" "" ""`},
		{`<@a:b:c@d>`, `- "@a" "b:c" "d"`},
		{`<@a:@b:c@d>`, `- "@a" "@b:c" "d"`},
		{`<@a b@c>`, `- - "@ab" "c"`},
		{`<@a>`, `- - "" "a"`},
		{`<@>`, `- - "" ""`},
		{`<a@b:c@d>`, `- - "a@b:c" "d"`},
		{`<:@a>`, `- - ":" "a"`},
		{`<a:b>`, `- - "a:b" ""`},
		{`<""@a:b@c>`, `- - "@a:b" "c"`},
		{`<"@"a:b@c>`, `- - "@a:b" "c"`},
		{`<@a":"b@c>`, `- - "@a:b" "c"`},
		{`<@a:b@c`, `- "@a" "b" "c"`},
		{`<@a>:b@c>`, `- - "<@a>" -; - - "b" "c>"; - - - -`},
		// places
		{`@`, `- - "" ""`},
		{`a@`, `- - "a" ""`},
		{`@b`, `- - "" "b"`},
		{`a @ b . c`, `- - "a" "b.c"`},
		{`a b@c d`, `- - "ab" "cd"`},
		{`a@b@`, `- - "a@b" ""`},
		{`a@@b`, `- - "a@" "b"`},
		{`"a@b"`, `- - "a@b" ""`},
		{`"a@b"@c`, `- - "a@b" "c"`},
		{`a@[b@c]`, `- - "a" "[b@c]"`},
		{`a@(b@c)d`, `- - "a" "d"`},
		{`<a b>`, `- - "a b" ""`},
		{`< a (c) b >`, `- - "a b" ""`},
		{`<a b@c d>`, `- - "ab" "cd"`},
	})
}

// P5.6: groups.
func TestGroups(t *testing.T) {
	tellAddresses(t, [][2]string{
		{`:`, `- - "" -; - - - -`},
		{`:;`, `- - "" -; - - - -`},
		{` (c) :;`, `- - "" -; - - - -`},
		{`a:;`, `- - "a" -; - - - -`},
		{`a b (c) "d  e" . f : ;`, `- - "a b d  e . f" -; - - - -`},
		{`a@b:;`, `- - "a@b" -; - - - -`},
		{`a: (c) ;`, `- - "a" -; - - - -`},
		{`a: ,, ;`, `- - "a" -; - - - -`},
		{`a:b`, `- - "a" -; - - "b" ""; - - - -`},
		{`a:b,`, `- - "a" -; - - "b" ""; - - - -`},
		{`a:b;`, `- - "a" -; - - "b" ""; - - - -`},
		{`a:b,c;d`, `- - "a" -; - - "b" ""; - - "c" ""; - - - -; - - "d" ""`},
		{`a:b;;`, `- - "a" -; - - "b" ""; - - - -`},
		{`a:b;c:d;`, `- - "a" -; - - "b" ""; - - - -; - - "c" -; - - "d" ""; - - - -`},
		{`a:;b:;`, `- - "a" -; - - - -; - - "b" -; - - - -`},
		{`a:b:c;`, `- - "a" -; - - "b" ""; - - "c" ""; - - - -`},
		{`a::;`, `- - "a" -; - - - -`},
		{`a:b: c:d;e;f`, `- - "a" -; - - "b" ""; - - "c" ""; - - "d" ""; - - - -; - - "e" ""; - - "f" ""`},
		{`a:<b;c>;d`, `- - "a" -; - - "b;c" ""; - - - -; - - "d" ""`},
		{`a:<b;`, `- - "a" -; - - "b;" ""; - - - -`},
		{`x, a:b`, `- - "x" ""; - - "a" -; - - "b" ""; - - - -`},
		{`a":"b`, `- - "a:b" ""`},
		{`a(:)b`, `- - "a b" ""`},
		{`a[:]b`, `- - "a[:]b" ""`},
	})
}

// P5.6: MaxAddress of them, groups' beginnings and ends counted.
func TestAddressesAtTheBound(t *testing.T) {
	for _, n := range []int{29, 30, 31, 32, 33, 34, 100} {
		list := strings.TrimSuffix(strings.Repeat("a@b, ", n), ", ")
		for value, want := range map[string]int{
			list:                           n,
			list + ",":                     n,
			"g:" + list + ";":              n + 2,
			"g:" + list:                    n + 2,
			list + ", g:;":                 n + 2,
			list + ", g:":                  n + 2,
			list + ", g: x":                n + 3,
			"g:;" + list:                   n + 2,
			strings.Repeat(":;", n):        2 * n,
			strings.Repeat("x:a;", n):      3 * n,
			strings.Repeat(" ,;", n) + "a": 1,
		} {
			if got := len(letter.Addresses(value)); got != min(want, 32) {
				t.Errorf("Addresses(%.60q..), %d of them: %d", value, want, got)
			}
			lookAtAddresses(t, value)
		}
	}
	first := letter.Addresses("first@x," + strings.Repeat("a@b,", 31) + "last@x")
	if len(first) != 32 || first[0].Box.S != "first" || first[31].Box.S != "a" {
		t.Errorf("the first ones: %s", told(first))
	}
	if got := letter.Addresses(strings.Repeat("a,", 31) + "g:b;"); len(got) != 32 || got[31] != (api.Address{Box: some("g")}) {
		t.Errorf("a group's beginning is the last one: %s", told(got))
	}
	if got := letter.Addresses(strings.Repeat("a,", 30) + "g:;"); len(got) != 32 || got[31] != (api.Address{}) {
		t.Errorf("a group's end is the last one: %s", told(got))
	}
}

// P5.6, P5.7: each byte in each kind of piece and between them.
func TestAddressesOfEachByte(t *testing.T) {
	for c := range 256 {
		b := string([]byte{byte(c)})
		for _, value := range []string{b, "a" + b + "c", b + b, "a " + b + " c", `"a` + b + `c" d`, `"a\` + b + `c" d`, "[a" + b + "c] d", `[a\` + b + "c] d", "(a" + b + "c) d", `(a\` + b + "c) d", "x <a" + b + "c@d> y", "g" + b + "a;c", "<" + b + "a:c@d>", "a" + b + b + "c@d" + b + "e", "<a@b>" + b + "<c@d>"} {
			lookAtAddresses(t, value)
			lookAtIds(t, value)
		}
	}
}

// randomField is a value of an address field, of any kind.
func randomField(r *rand.Rand) string {
	return pieced(r, 16, "a", "b.c", "@", "@", "<", ">", "<", ">", ":", ";", ",", " ", "\t", "\r\n ", "(", ")", "[", "]", `"`, `"`, `\`, "(c)", `"d e"`, `""`, "[f]", "<a@b>", "G:", "<@x:", ".", "\xff", "é", "\x00")
}

// P5.6, P5.7, P5.13: against a reader of another make.
func TestAddressesOfManyKinds(t *testing.T) {
	r := rand.New(rand.NewPCG(5, 6))
	for range 60000 {
		value := randomField(r)
		lookAtAddresses(t, value)
		lookAtIds(t, value)
	}
}

var formOfIds = regexp.MustCompile(`<([^>]*)>`)

// wantIds finds the angles among the letters of the pieces' kinds.
func wantIds(value string) []string {
	w := wantPieces(value)
	var all []string
	for _, m := range formOfIds.FindAllStringSubmatchIndex(w.kinds, -1) {
		id := w.cut(m[2], m[3]).closed()
		for i := range len(id) {
			if id[i] == '@' && i != 0 && i != len(id)-1 {
				all = append(all, id)
				break
			}
		}
	}
	return all[max(0, len(all)-32):]
}

// lookAtIds: P5.7, P5.13.
func lookAtIds(t *testing.T, value string) {
	t.Helper()
	want := wantIds(value)
	for range 2 {
		got := letter.Ids(value)
		if !slices.Equal(got, want) {
			t.Errorf("Ids(%.200q): %.200q, not %.200q", value, got, want)
		}
		overwrite(got)
	}
}

// P5.7
func TestIds(t *testing.T) {
	ids := func(l ...string) []string { return l }
	for _, c := range []struct {
		value string
		want  []string
	}{
		{`<a@b> x (<c@d>) <"e f"@ g> <h> <i@j`, ids("a@b", "e f@g")},
		{``, nil},
		{`<a@b>`, ids("a@b")},
		{`a@b`, nil},
		{`<a@b`, nil},
		{`a@b>`, nil},
		{`<a@b> c@d>`, ids("a@b")},
		{`><a@b>`, ids("a@b")},
		{`<a@b><c@d>`, ids("a@b", "c@d")},
		{`<a@b>,;:@.<a@b>`, ids("a@b", "a@b")},
		{"<a@b>\r\n\t<c@d>", ids("a@b", "c@d")},
		// without an @, or with it at an end
		{`<>`, nil},
		{`<@>`, nil},
		{`<@@>`, nil},
		{`<@@@>`, ids("@@@")},
		{`<a>`, nil},
		{`<@a> <a@> <a@b@> <@a@b>`, ids("a@b@", "@a@b")},
		{`<@a@>`, nil},
		{`< (x) @ a >`, nil},
		{`<""@a>`, nil},
		// < within
		{`<<c@d>`, ids("<c@d")},
		{`<a<b@c>>`, ids("a<b@c")},
		{`<<@d>`, ids("<@d")},
		{`<<h>i@j>`, nil},
		{`<a@b<c@d`, nil},
		{`<a <b@c> <d@e>`, ids("a<b@c", "d@e")},
		{`<h> <a@b>`, ids("a@b")},
		// pieces
		{`< a . b @ c >`, ids("a.b@c")},
		{`<a(x)b@c>`, ids("ab@c")},
		{`<a@b(>)c>`, ids("a@bc")},
		{`<"a>b"@c>`, ids("a>b@c")},
		{`<"a@b">`, ids("a@b")},
		{`<"a\"\\b"@c>`, ids(`a"\b@c`)},
		{`<a@[b>c]>`, ids("a@[b>c]")},
		{`<[a@b]>`, ids("[a@b]")},
		{`<a@[b\]c]>`, ids(`a@[b\]c]`)},
		{`"<a@b>" [<c@d>] (<e@f>)`, nil},
		{`<a@b"c>`, nil},
		{`<a@b(c>`, nil},
		{`<a@b[c>`, nil},
		{`(<a@b>`, nil},
		{`<a\@b)]>`, ids("a@b")},
		{`<a,b;c:d@e>`, ids("a,b;c:d@e")},
		{"<\xff@\x00é>", ids("\xff@\x00é")},
	} {
		if got := letter.Ids(c.value); !slices.Equal(got, c.want) {
			t.Errorf("Ids(%q): %q, not %q", c.value, got, c.want)
		}
		lookAtIds(t, c.value)
	}
}

// P5.7: of more than MaxIds the last ones, in order; what is none is not counted.
func TestIdsAtTheBound(t *testing.T) {
	for _, n := range []int{0, 1, 31, 32, 33, 34, 100} {
		value := ""
		var want []string
		for i := range n {
			id := fmt.Sprintf("%d@x", i)
			value += "<none> <" + id + "> "
			if i >= n-32 {
				want = append(want, id)
			}
		}
		if got := letter.Ids(value + "<y@z"); !slices.Equal(got, want) {
			t.Errorf("Ids of %d: %q", n, got)
		}
		lookAtIds(t, value)
	}
}

// P5.13: many thousand brackets, quotes, backslashes, groups.
func TestLongAndDeepFields(t *testing.T) {
	const n = 200000
	for _, piece := range []string{"(", ")", "[", "]", `"`, `\`, "<", ">", ":", ";", ",", "@", ".", " ", "a", "()", "(a", `(\`, `[\`, `"\`, `\"`, "<>", "><", "<@", "@<", "g:", "g:;", ":<", "<:", "a ", `"" `, "[]", "a@b,", "<a@b>", "<a@b", "\xff"} {
		value := strings.Repeat(piece, n)
		list := letter.Addresses(value)
		lookAtGroups(t, piece+" many times", list)
		if len(list) > 32 || len(letter.Ids(value)) > 32 {
			t.Errorf("%q many times: %d addresses", piece, len(list))
		}
	}
	deep := strings.Repeat("(", n) + strings.Repeat(")", n)
	if got := told(letter.Addresses(deep + "a" + deep + "@b <c" + deep + ">")); got != `"a @b" - "c" ""` {
		t.Errorf("deep comments: %.90s", got)
	}
	if got := letter.Addresses(strings.Repeat("(", n) + strings.Repeat(")", n-1) + "a"); len(got) != 0 {
		t.Errorf("a deep comment that does not end: %.90s", told(got))
	}
	if got := letter.Addresses(`"` + strings.Repeat(`\"`, n) + `"@` + strings.Repeat("b.", n)); len(got) != 1 || got[0].Box.S != strings.Repeat(`"`, n) || got[0].Host.S != strings.Repeat("b.", n) {
		t.Errorf("a long address: %d of them", len(got))
	}
	if got := letter.Ids(strings.Repeat("<", n) + "a@b>"); len(got) != 1 || len(got[0]) != n-1+3 {
		t.Errorf("a long id: %d of them", len(got))
	}
}
