package limb_test

import (
	"fmt"
	"math/rand/v2"
	"regexp"
	"strings"
	"testing"

	"postbag/api"
	"postbag/letter"
	"postbag/limb"
)

var (
	formOfToken  = regexp.MustCompile(`\A[!#-'*+.0-9A-Z^-~-]+`)
	formOfQuoted = regexp.MustCompile(`\A"((?:[^"\\]|\\(?s:.))*)"`)
	formOfMedia  = regexp.MustCompile(`\At/t`)
	formOfParam  = regexp.MustCompile(`\A;t=[tq]`)
)

// wide is a text with one character for each byte, as the library's forms want it.
func wide(s string) string {
	var out strings.Builder
	for i := range len(s) {
		out.WriteRune(rune(s[i]))
	}
	return out.String()
}

func narrow(s string) string {
	var out []byte
	for _, c := range s {
		out = append(out, byte(c))
	}
	return string(out)
}

// behindComment reads a comment by calling itself for those that lie in it.
func behindComment(s string) string {
	for s = s[1:]; s != ""; {
		switch s[0] {
		case ')':
			return s[1:]
		case '(':
			s = behindComment(s)
		case '\\':
			s = s[min(2, len(s)):]
		default:
			s = s[1:]
		}
	}
	return ""
}

// words cuts a value into words: kinds has a letter for each (t a token, q a text in quotes, x what is neither, or the sign itself), texts what they mean. Blanks are gone.
func words(value string) (kinds string, texts []string) {
	for rest := value; rest != ""; {
		kind, text := rest[:1], rest[:1]
		next := rest[1:]
		if strings.Contains(" \t", kind) {
			rest = next
			continue
		}
		if kind == "(" {
			rest = behindComment(rest)
			continue
		}
		if token := formOfToken.FindString(rest); token != "" {
			kind, text, next = "t", token, rest[len(token):]
		} else if quoted := formOfQuoted.FindStringSubmatch(wide(rest)); quoted != nil {
			kind, text = "q", narrow(regexp.MustCompile(`(?s)\\(.)`).ReplaceAllString(quoted[1], "$1"))
			next = narrow(wide(rest)[len(quoted[0]):])
		} else if !strings.Contains("/;=,", kind) {
			kind = "x"
		}
		kinds, texts, rest = kinds+kind, append(texts, text), next
	}
	return kinds, texts
}

func wantParams(kinds string, texts []string) []api.Param {
	var list []api.Param
	had := map[string]bool{}
	for len(list) < 12 && formOfParam.MatchString(kinds) {
		if name := strings.ToLower(texts[1]); !had[name] {
			had[name] = true
			list = append(list, api.Param{Name: name, Value: texts[3]})
		}
		kinds, texts = kinds[4:], texts[4:]
	}
	return list
}

// wantHeader reads a header word by word.
func wantHeader(head string, inDigest bool) api.Limb {
	get := func(name string) api.Text { return letter.Get(letter.Fields(head), name) }
	l := api.Limb{Type: "text", Sub: "plain", Params: []api.Param{{Name: "charset", Value: "us-ascii"}}}
	if inDigest {
		l.Type, l.Sub, l.Params = "message", "rfc822", nil
	}
	if kinds, texts := words(get("content-type").S); formOfMedia.MatchString(kinds) {
		l.Type, l.Sub, l.Params = strings.ToLower(texts[0]), strings.ToLower(texts[2]), wantParams(kinds[3:], texts[3:])
	}
	if kinds, texts := words(get("content-transfer-encoding").S); strings.HasPrefix(kinds, "t") {
		l.Coding = some(strings.ToLower(texts[0]))
	}
	if kinds, texts := words(get("content-disposition").S); strings.HasPrefix(kinds, "t") {
		l.Placed, l.PlacedParams = some(strings.ToLower(texts[0])), wantParams(kinds[1:], texts[1:])
	}
	kinds, texts := words(get("content-language").S)
	for i := 0; i < 24 && strings.HasPrefix(kinds[min(i, len(kinds)):], "t") && strings.Trim(strings.ReplaceAll(kinds[:i], "t,", ""), "t,") == ""; i += 2 {
		l.Langs = append(l.Langs, strings.ToLower(texts[i]))
		if !strings.HasPrefix(kinds[i+1:], ",") {
			break
		}
	}
	for name, text := range map[string]*api.Text{"content-id": &l.Id, "content-description": &l.About, "content-location": &l.Where} {
		if *text = get(name); text.Is {
			text.S = strings.Trim(text.S, " \t")
		}
	}
	return l
}

// lookAtHeader holds what Parse says of a header against the reference, for the fields alone.
func lookAtHeader(t *testing.T, head string) {
	t.Helper()
	got, want := limb.Parse(head+end), wantHeader(head+end, false)
	opaque := want.Type == "multipart" || want.Type == "message" && want.Sub == "rfc822" && len(got.Kids) == 0
	if opaque {
		want.Type, want.Sub, want.Params = "application", "octet-stream", nil
	}
	got.Head, got.Body, got.Lines, got.Kids = api.Piece{}, api.Piece{}, 0, nil
	if !isSame(got, want) {
		t.Errorf("Parse(%.200q): %+v\nnot %+v", head, got, want)
	}
}

// said is a type with its parameters.
func said(kind, sub string, params []api.Param) string {
	out := kind + "/" + sub
	for _, p := range params {
		out += fmt.Sprintf(" %s=%q", p.Name, p.Value)
	}
	return out
}

const byDefault = `text/plain charset="us-ascii"`

// twelve and thirteen parameters
func numbered(n int) (value, want string) {
	for i := range n {
		value += fmt.Sprintf("; p%d=%d", i, i)
		want += fmt.Sprintf(" p%d=\"%d\"", i, i)
	}
	return value, want
}

// The section What a header says: types and parameters.
func TestContentType(t *testing.T) {
	value12, want12 := numbered(12)
	value13, _ := numbered(13)
	for _, c := range []struct{ value, want string }{
		{"text/html", "text/html"},
		{"TEXT/HtmL", "text/html"},
		{" \t text \t / \t html \t ", "text/html"},
		{"(a) text (b)(c) / (d (e (f)) g) html (h)", "text/html"},
		{"(a \\) b) text/(\\()html", "text/html"},
		{"((((a)b)c)d)image/png", "image/png"},
		{"x-A_b!#$%&'*+-.^`{|}~/0", "x-a_b!#$%&'*+-.^`{|}~/0"},
		// does not begin so
		{"", byDefault},
		{" ", byDefault},
		{"text", byDefault},
		{"text/", byDefault},
		{"text/ ", byDefault},
		{"text/;", byDefault},
		{"text/;charset=x", byDefault},
		{"/html", byDefault},
		{"/", byDefault},
		{"text html", byDefault},
		{"text;charset=x", byDefault},
		{"text//html", byDefault},
		{"text/\"html\"", byDefault},
		{"\"text\"/html", byDefault},
		{"text\xff/html", byDefault},
		{"\xfftext/html", byDefault},
		{"text\x00/html", byDefault},
		{"text\r/html", byDefault},
		{"text/\nhtml", byDefault},
		{"(text/html", byDefault},
		{"(text)/html", byDefault},
		{"text/(html", byDefault},
		{"text/((html)", byDefault},
		{"text/(html\\)", byDefault},
		{"text(/html)", byDefault},
		{")text/html", byDefault},
		{"=?utf-8?q?text?=/html", byDefault},
		// what stands behind
		{"text/html x", "text/html"},
		{"text/html/x", "text/html"},
		{"text/html charset=x", "text/html"},
		{"text/html, charset=x", "text/html"},
		{"text/html;", "text/html"},
		{"text/html; ", "text/html"},
		{"text/html (", "text/html"},
		{"text/html\xff; a=b", "text/html"},
		{"text/html; a", "text/html"},
		{"text/html; a=", "text/html"},
		{"text/html; a=;b=c", "text/html"},
		{"text/html; =b", "text/html"},
		{"text/html;; a=b", "text/html"},
		{"text/html; a b=c", "text/html"},
		{"text/html; \"a\"=b", "text/html"},
		{"text/html; a:b", "text/html"},
		// parameters
		{"text/html; a=b", `text/html a="b"`},
		{"text/html;a=b;c=d", `text/html a="b" c="d"`},
		{"text/html;a=b;c=d;", `text/html a="b" c="d"`},
		{"text/html;a=b;c=d; e", `text/html a="b" c="d"`},
		{"text/html;a=b;c;d=e", `text/html a="b"`},
		{"text/html;a=b c=d", `text/html a="b"`},
		{"text/html;a=b c;d=e", `text/html a="b"`},
		{"text/html;a=b=c;d=e", `text/html a="b"`},
		{"text/html;a=b/c;d=e", `text/html a="b"`},
		{"text/html;a=b\xffc;d=e", `text/html a="b"`},
		{"text/html (x) ; (x) A (x) = (x) B (x) ; (x) c=d (x", `text/html a="B" c="d"`},
		{"text/html; a=b (; c=d", `text/html a="b"`},
		{"text/html; a=(b; c=d", "text/html"},
		{"Text/HTML (a (b) c) ; Charset=\"a\\\"b\"; charset=x; n", `text/html charset="a\"b"`},
		{"text/html; A=b; a=c; B=d; b=e; c=f", `text/html a="b" b="d" c="f"`},
		{"text/html; a=b; a=\"c; d=e", `text/html a="b"`},
		// quotes
		{`text/html; a=""`, `text/html a=""`},
		{`text/html; a=""; b=c`, `text/html a="" b="c"`},
		{`text/html; a="b;c=(d)/, "; e=f`, `text/html a="b;c=(d)/, " e="f"`},
		{`text/html; a="\b\\\"\("; e=f`, `text/html a="b\\\"(" e="f"`},
		{`text/html; a="b`, "text/html"},
		{`text/html; a="`, "text/html"},
		{`text/html; a="b\"`, "text/html"},
		{`text/html; a="b\`, "text/html"},
		{`text/html; a="b\\"`, `text/html a="b\\"`},
		{`text/html; a="b\; c=d`, "text/html"},
		{`text/html; x=y; a="b`, `text/html x="y"`},
		{`text/html; a="b"c;d=e`, `text/html a="b"`},
		{`text/html; a="b""c";d=e`, `text/html a="b"`},
		{`text/html; a=b"c";d=e`, `text/html a="b"`},
		{"text/html; a=\"\xff\x00\r\n\t\"", `text/html a="\xff\x00\t"`},
		{"text/html; a=\"\xff\x00\r \n\t\"", `text/html a="\xff\x00\r \n\t"`},
		{"text/html; a=\"\r\\\n\"", `text/html a="\r\n"`},
		// folded
		{"text/html;\r\n a=b;\r\n\tc=\"d\r\n e\"", `text/html a="b" c="d e"`},
		{"text\r\n /\r\n html", "text/html"},
		// as many as may be
		{"text/html" + value12, "text/html" + want12},
		{"text/html" + value13, "text/html" + want12},
		{"text/html" + value12 + ";", "text/html" + want12},
		{"text/html; p0=0; P0=1; p0=2" + value13, "text/html" + want12},
		{"text/html" + value12 + "; p0=1; a=b", "text/html" + want12},
	} {
		l := limb.Parse("Content-Type:" + c.value + end + end + "x")
		if got := said(l.Type, l.Sub, l.Params); got != c.want {
			t.Errorf("Content-Type %q: %s, not %s", c.value, got, c.want)
		}
		lookAtHeader(t, "Content-Type:"+c.value+end)
		lookAtHeader(t, "Content-Disposition:"+c.value+end)
		lookAtHeader(t, "Content-Disposition: "+strings.TrimPrefix(c.value, "text/")+end)
	}
}

// The section What a header says: which field counts.
func TestWhichField(t *testing.T) {
	html := "Content-Type: text/html" + end
	for _, c := range []struct{ raw, want string }{
		{"", byDefault},
		{end, byDefault},
		{html, "text/html"},
		{html + "Content-Type: text/enriched" + end, "text/html"},
		{"content-TYPE : text/html" + end, "text/html"},
		{"X: y" + end + html + end, "text/html"},
		{"Content-Type:" + end + html, byDefault},
		{"Content-Types: a/b" + end + "Content-Typ: c/d" + end + "Type: e/f" + end, byDefault},
		{end + html, byDefault},
		{"x" + end + end + html, byDefault},
		{" " + html, byDefault},
		{strings.Repeat("a: b"+end, api.MaxFields-1) + html, "text/html"},
		{strings.Repeat("a: b"+end, api.MaxFields) + html, byDefault},
	} {
		l := limb.Parse(c.raw)
		if got := said(l.Type, l.Sub, l.Params); got != c.want {
			t.Errorf("Parse(%q): %s, not %s", c.raw, got, c.want)
		}
	}
}

// The section What a header says: what lies directly in a multipart/digest.
func TestDigest(t *testing.T) {
	digest := func(sub, part string) string {
		return strings.Replace(multi("b", part), "mixed", sub, 1)
	}
	for _, c := range []struct{ raw, want string }{
		{digest("digest", ""), "m(r(t))"},
		{digest("DigesT", end+"x"), "m(r(t))"},
		{digest("mixed", end+"x"), "m(t)"},
		{digest("digests", end+"x"), "m(t)"},
		{digest("digest", "Content-Type: text/html"+end+end), "m(t)"},
		{digest("digest", "Content-Type: text"+end+end), "m(r(t))"},
		{digest("digest", "Content-Type:"+end+end), "m(r(t))"},
		{digest("digest", "Content-Transfer-Encoding: base64"+end+end), "m(a)"},
		{digest("digest", "Content-Transfer-Encoding: 8bit"+end+end), "m(r(t))"},
		{digest("digest", "Content-Type: image/png"+end+end), "m()"},
		// what lies deeper does not lie directly in it
		{digest("digest", end+"Subject: x"+end+end+"y"), "m(r(t))"},
		{digest("digest", message("")), "m(r(t))"},
		{digest("digest", end+message("")), "m(r(r(t)))"},
		{digest("digest", multi("c", "")), "m(m(t))"},
		{digest("digest", strings.Replace(multi("c", ""), "mixed", "digest", 1)), "m(m(r(t)))"},
		{message(digest("digest", "")), "r(m(r(t)))"},
		{message(""), "r(t)"},
	} {
		if got := outline(limb.Parse(c.raw)); got != c.want {
			t.Errorf("Parse(%q): %s, not %s", c.raw, got, c.want)
		}
		lookAtTree(t, c.raw)
	}
	l := limb.Parse(digest("digest", end+"Subject: x"+end+end))
	kid := l.Kids[0]
	if said(kid.Type, kid.Sub, kid.Params) != "message/rfc822" || said(kid.Kids[0].Type, kid.Kids[0].Sub, kid.Kids[0].Params) != byDefault {
		t.Errorf("a digest's kid: %+v", kid)
	}
}

// missing is what stands for a text that is missing.
const missing = "-"

func ifThere(t api.Text) string {
	if t.Is {
		return t.S
	}
	return missing + t.S
}

// The section What a header says: the coding.
func TestCoding(t *testing.T) {
	for _, c := range []struct{ line, want string }{
		{"", missing},
		{"Content-Transfer-Encoding: 7bit", "7bit"},
		{"content-transfer-encoding: \t(a(b)) BASE64 (c)", "base64"},
		{"Content-Transfer-Encoding: Quoted-Printable; x", "quoted-printable"},
		{"Content-Transfer-Encoding: 8bit/x", "8bit"},
		{"Content-Transfer-Encoding: x-Y.Z", "x-y.z"},
		{"Content-Transfer-Encoding:", missing},
		{"Content-Transfer-Encoding: (7bit)", missing},
		{"Content-Transfer-Encoding: (7bit", missing},
		{"Content-Transfer-Encoding: ;7bit", missing},
		{"Content-Transfer-Encoding: \"7bit\"", missing},
		{"Content-Transfer-Encoding: \xff7bit", missing},
		{"Content-Encoding: 7bit", missing},
	} {
		if got := ifThere(limb.Parse(c.line + end + end).Coding); got != c.want {
			t.Errorf("%q: %q, not %q", c.line, got, c.want)
		}
		lookAtHeader(t, c.line+end)
	}
}

// The section What a header says: id, description, location.
func TestPlainTexts(t *testing.T) {
	fields := []string{"Content-Id", "Content-Description", "Content-Location"}
	of := func(l api.Limb) []string { return []string{ifThere(l.Id), ifThere(l.About), ifThere(l.Where)} }
	for _, c := range []struct{ value, want string }{
		{"", ""}, {" \t ", ""}, {" x ", "x"}, {"<a@b> (c)", "<a@b> (c)"}, {"\t\"A  B\"; C\t", "\"A  B\"; C"},
		{" \r\n a\r\n\tb \r\n ", "a\tb"}, {" =?utf-8?q?a?= \xff\x00", "=?utf-8?q?a?= \xff\x00"}, {"\rx\n", "\rx\n"}, {"(", "("},
	} {
		for i, field := range fields {
			want := []string{missing, missing, missing}
			want[i] = c.want
			for _, name := range []string{field, strings.ToUpper(field), strings.ToLower(field)} {
				head := name + ":" + c.value + end
				if got := of(limb.Parse(head + end)); fmt.Sprint(got) != fmt.Sprint(want) {
					t.Errorf("%q: %q, not %q", head, got, want)
				}
				lookAtHeader(t, head)
				lookAtHeader(t, head+name+": second"+end)
			}
		}
	}
}

// The section What a header says: the disposition.
func TestDisposition(t *testing.T) {
	value13, _ := numbered(13)
	_, want12 := numbered(12)
	for _, c := range []struct{ value, want string }{
		{"inline", "inline/"},
		{"(a) ATTACHMENT (b) ; FileName = \"A b\" ; size=1;", `attachment/ filename="A b" size="1"`},
		{"inline; a=b; A=c; d", `inline/ a="b"`},
		{"inline" + value13, "inline/" + want12},
		{"inline/x; a=b", "inline/"},
		{"inline x; a=b", "inline/"},
		{"", missing + "/"},
		{" ", missing + "/"},
		{"(inline)", missing + "/"},
		{"; a=b", missing + "/"},
		{"(x) ; a=b", missing + "/"},
		{"\"inline\"; a=b", missing + "/"},
	} {
		l := limb.Parse("Content-Disposition: " + c.value + end + end)
		if got := said(ifThere(l.Placed), "", l.PlacedParams); got != c.want {
			t.Errorf("%q: %s, not %s", c.value, got, c.want)
		}
		lookAtHeader(t, "Content-Disposition:"+c.value+end)
	}
	if l := limb.Parse("X: y" + end + end); l.Placed.Is || len(l.PlacedParams) != 0 {
		t.Errorf("without one: %+v", l)
	}
}

// The section What a header says: languages.
func TestLanguages(t *testing.T) {
	twelve := strings.Repeat("a,", 11) + "b"
	for _, c := range []struct{ value, want string }{
		{"", ""}, {" ", ""}, {"(de)", ""}, {",", ""}, {",de", ""}, {"\"de\"", ""},
		{"de", "de"}, {"DE", "de"}, {"de,", "de"}, {"de, ", "de"}, {"de,,en", "de"}, {"de en", "de"}, {"de;en", "de"}, {"de, ;en", "de"},
		{"de,en", "de,en"}, {" (a) De (b) , (c) En-GB (d) ", "de,en-gb"}, {"de, de, DE", "de,de,de"}, {"de,en(,fr", "de,en"}, {"de,en\xff,fr", "de,en"},
		{"a,b,c d,e", "a,b,c"},
		{twelve, twelve}, {twelve + ",", twelve}, {twelve + ",c", twelve}, {twelve + " c", twelve},
	} {
		if got := strings.Join(limb.Parse("Content-Language: "+c.value+end+end).Langs, ","); got != c.want {
			t.Errorf("%q: %q, not %q", c.value, got, c.want)
		}
		lookAtHeader(t, "Content-Language:"+c.value+end)
	}
}

// The section What a header says: each byte at each kind of place.
func TestEachByteOfAValue(t *testing.T) {
	for b := range 256 {
		s := string([]byte{byte(b)})
		for _, value := range []string{
			s, s + "text/html", "te" + s + "xt/html", "text" + s + "/html", "text/" + s + "html", "text/ht" + s + "ml;a=b", "text/html" + s + ";a=b", "text/html;" + s + "a=b;c=d", "text/html;x" + s + "a=b;c=d",
			"text/html;a" + s + "=b;c=d", "text/html;a=" + s + "b;c=d", "text/html;a=b" + s + "x;c=d", "text/html;a=b" + s + ";c=d", "text/html;a=" + s, `text/html;a="` + s + `b";c=d`, `text/html;a="\` + s + `b";c=d`,
			`text/html;a="b"` + s + `;c=d`, "text/html(" + s + ");a=b", "text/html(\\" + s + ");a=b", "de" + s + "en,fr", "de" + s + ",fr", "de," + s + "fr", s + "de,fr",
		} {
			for _, name := range []string{"Content-Type", "Content-Disposition", "Content-Language", "Content-Transfer-Encoding"} {
				lookAtHeader(t, name+": "+value+end)
			}
		}
	}
}

// The section What a header says: values of many kinds.
func TestValuesOfManyKinds(t *testing.T) {
	r := rand.New(rand.NewPCG(6, 3))
	names := []string{"Content-Type", "content-type", "Content-Disposition", "Content-Language", "Content-Transfer-Encoding", "Content-Id", "Content-Description", "Content-Location", "Subject"}
	for range 20000 {
		head := ""
		for range 1 + r.IntN(4) {
			head += oneOf(r, names...) + ":" + oneOf(r, "", "", "a/b", "a", "a,b") + pieced(r, 14, "a", "B", "text", "/", ";", ";", "; a=b", "; c=", "=", "=", ",", " ", "\t", "(", ")", "(c)", `"`, `"`, `\`, "\"x\"", "\r\n ", "\xff", "@") + end
		}
		lookAtHeader(t, head)
	}
}
