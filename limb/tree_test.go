package limb_test

import (
	"fmt"
	"math/rand/v2"
	"slices"
	"strings"
	"testing"

	"postbag/api"
	"postbag/letter"
	"postbag/limb"
)

// node is a limb of the reference's tree.
type node struct {
	limb   api.Limb
	parent *node
	number int // among its parent's kids, from 1 on
	kids   []*node
}

func (n *node) depth() int {
	if n.parent == nil {
		return 0
	}
	return n.parent.depth() + 1
}

func (n *node) isInside() bool { return n.parent != nil && n.parent.limb.Type == "message" }

// place: P6.6, word by word.
func (n *node) place() string {
	switch p := n.parent; {
	case p == nil:
		return ""
	case p.limb.Type == "multipart" && p.parent == nil:
		return fmt.Sprint(n.number)
	case p.limb.Type == "multipart":
		return fmt.Sprintf("%s.%d", p.place(), n.number)
	case p.parent == nil:
		return "1"
	case p.isInside():
		return p.place() + ".1"
	default:
		return p.place()
	}
}

// wantBoundaries tries every place of a body: the lines that part it, each from its -- to behind its end.
func wantBoundaries(body, boundary string) (lines []api.Piece, last []bool) {
	for i := range body {
		if i > 0 && !strings.HasSuffix(body[:i], end) {
			continue
		}
		rest, is := strings.CutPrefix(body[i:], "--"+boundary)
		if !is {
			continue
		}
		rest, isLast := strings.CutPrefix(rest, "--")
		for rest != "" && strings.Contains(" \t", rest[:1]) {
			rest = rest[1:]
		}
		if rest != "" && !strings.HasPrefix(rest, end) {
			continue
		}
		to := len(body) - len(strings.TrimPrefix(rest, end))
		lines, last = append(lines, api.Piece{From: i, To: to}), append(last, isLast)
	}
	return lines, last
}

func wantParts(raw string, l api.Limb) []api.Piece {
	if l.Type == "message" && l.Sub == "rfc822" {
		if l.Coding.Is && !slices.Contains([]string{"7bit", "8bit", "binary"}, l.Coding.S) {
			return nil
		}
		return []api.Piece{l.Body}
	}
	i := slices.IndexFunc(l.Params, func(p api.Param) bool { return p.Name == "boundary" })
	if l.Type != "multipart" || i < 0 || l.Params[i].Value == "" || len(l.Params[i].Value) > 70 || strings.Contains(l.Params[i].Value, end) {
		return nil
	}
	body := bytesOf(raw, l.Body)
	lines, last := wantBoundaries(body, l.Params[i].Value)
	var parts []api.Piece
	for i, line := range lines {
		if last[i] {
			break
		}
		to := len(body)
		if i+1 < len(lines) {
			to = lines[i+1].From
			if to > line.To {
				to -= 2
			}
		}
		parts = append(parts, api.Piece{From: l.Body.From + line.To, To: l.Body.From + to})
	}
	return parts
}

// wantTree takes limb by limb from a row of those that wait, and puts their parts ahead of it.
func wantTree(raw string) *node {
	root := &node{limb: api.Limb{Body: api.Piece{To: len(raw)}}}
	count := 0
	for waiting := []*node{root}; len(waiting) > 0; {
		n := waiting[0]
		waiting = waiting[1:]
		piece := n.limb.Body
		head, _ := letter.Split(bytesOf(raw, piece))
		n.limb = wantHeader(head, n.parent != nil && n.parent.limb.Type == "multipart" && n.parent.limb.Sub == "digest")
		n.limb.Head, n.limb.Body = api.Piece{From: piece.From, To: piece.From + len(head)}, api.Piece{From: piece.From + len(head), To: piece.To}
		parts := wantParts(raw, n.limb)
		isOpened := len(parts) > 0 && n.depth() < 5 && count+len(parts) <= 16
		isMessage := n.limb.Type == "message" && n.limb.Sub == "rfc822"
		if n.limb.Type == "text" || isMessage && isOpened {
			n.limb.Lines = len(strings.Split(bytesOf(raw, n.limb.Body), end)) - 1
		}
		if !isOpened {
			if isMessage || n.limb.Type == "multipart" {
				n.limb.Type, n.limb.Sub, n.limb.Params = "application", "octet-stream", nil
			}
			continue
		}
		count += len(parts)
		for i, part := range parts {
			n.kids = append(n.kids, &node{limb: api.Limb{Body: part}, parent: n, number: i + 1})
		}
		waiting = slices.Concat(n.kids, waiting)
	}
	return root
}

func (n *node) built() api.Limb {
	l := n.limb
	l.Place = n.place()
	for _, kid := range n.kids {
		l.Kids = append(l.Kids, kid.built())
	}
	return l
}

// lookAtTree: P6.1 to P6.6, P6.15, P6.17, W2, W6.
func lookAtTree(t *testing.T, raw string) {
	t.Helper()
	want := wantTree(raw).built()
	got := limb.Parse(raw)
	if !isSame(got, want) {
		t.Errorf("Parse(%.900q): %+v\nnot %+v", raw, got, want)
		return
	}
	again := limb.Parse(raw)
	lookAtRooms(t, "Parse", got, again)
	scribble(got)
	if !isSame(again, want) || !isSame(limb.Parse(raw), want) {
		t.Errorf("Parse(%.900q), once written over, is not the same again", raw)
	}
	if again.Head.From != 0 || again.Body.From != again.Head.To || again.Body.To != len(raw) {
		t.Errorf("Parse(%.900q): the whole is %v, %v", raw, again.Head, again.Body)
	}
	for _, l := range all(again) {
		at := l.Body.From
		for _, kid := range l.Kids {
			if kid.Head.From < at || kid.Head.To < kid.Head.From || kid.Body.From != kid.Head.To || kid.Body.To < kid.Body.From || kid.Body.To > l.Body.To {
				t.Errorf("Parse(%.900q): in %v at %d a kid %v, %v", raw, l.Body, at, kid.Head, kid.Body)
			}
			at = kid.Body.To
		}
	}
	if n := len(all(again)) - 1; n > api.MaxLimbs || deepest(again) > api.MaxInside {
		t.Errorf("Parse(%.900q): %d limbs, %d deep", raw, n, deepest(again))
	}
}

// P6.1
func TestWhole(t *testing.T) {
	for _, c := range []struct {
		raw        string
		head, body string
		lines      int
	}{
		{"", "", "", 0},
		{"\r\n", "\r\n", "", 0},
		{"\r\nx", "\r\n", "x", 0},
		{"a: b\r\n", "a: b\r\n", "", 0},
		{"a: b\r\n\r\n", "a: b\r\n\r\n", "", 0},
		{"Subject: x\r\n\r\nhi\r\n", "Subject: x\r\n\r\n", "hi\r\n", 1},
		{"no field at all", "no field at all", "", 0},
		{"\xff\x00\r\n\r\n\r\n\r\n\xff", "\xff\x00\r\n\r\n", "\r\n\r\n\xff", 2},
		{"\n\nx", "\n\nx", "", 0},
	} {
		l := limb.Parse(c.raw)
		want := api.Limb{Type: "text", Sub: "plain", Params: []api.Param{{Name: "charset", Value: "us-ascii"}}, Head: api.Piece{To: len(c.head)}, Body: api.Piece{From: len(c.head), To: len(c.raw)}, Lines: c.lines}
		if !isSame(l, want) || bytesOf(c.raw, l.Head) != c.head || bytesOf(c.raw, l.Body) != c.body {
			t.Errorf("Parse(%q): %+v", c.raw, l)
		}
		lookAtMessage(t, c.raw)
	}
	for b := range 256 {
		lookAtMessage(t, string([]byte{byte(b)}))
		lookAtMessage(t, string([]byte{byte(b), 13, 10, 13, 10, byte(b)}))
	}
}

// The examples of the chapter.
func TestExamples(t *testing.T) {
	raw := wire("Content-Type: multipart/mixed; boundary=b\n\npre\n--b\n\none\n--b \nContent-Type: text/html\n\ntwo\n--b--\nepi\n")
	for _, c := range []struct{ raw, want string }{
		{raw, `m "pre\r\n--b\r\n\r\none\r\n--b \r\nContent-Type: text/html\r\n\r\ntwo\r\n--b--\r\nepi\r\n" 1:"\r\n"+"one" 2:"Content-Type: text/html\r\n\r\n"+"two"`},
		{strings.TrimSuffix(raw, wire("--b--\nepi\n")), `m "pre\r\n--b\r\n\r\none\r\n--b \r\nContent-Type: text/html\r\n\r\ntwo\r\n" 1:"\r\n"+"one" 2:"Content-Type: text/html\r\n\r\n"+"two\r\n"`},
		{wire("Content-Type: multipart/mixed; boundary=b\n\nnone\n"), `a "none\r\n"`},
		{wire("Content-Type: multipart/mixed; boundary=b\n\n--b\n--b--\n"), `m "--b\r\n--b--\r\n" 1:""+""`},
		{wire("Content-Type: message/rfc822\n\nSubject: in\n\nbody"), `r "Subject: in\r\n\r\nbody" 1:"Subject: in\r\n\r\n"+"body"`},
	} {
		l := limb.Parse(c.raw)
		got := fmt.Sprintf("%s %q", outline(l)[:1], bytesOf(c.raw, l.Body))
		for _, kid := range l.Kids {
			got += fmt.Sprintf(" %s:%q+%q", kid.Place, bytesOf(c.raw, kid.Head), bytesOf(c.raw, kid.Body))
		}
		if got != c.want {
			t.Errorf("Parse(%q): %s\nnot %s", c.raw, got, c.want)
		}
		lookAtMessage(t, c.raw)
	}
}

// partsOf is the parts of a multipart's body, by the boundary b.
func partsOf(boundary, body string) []string {
	raw := "Content-Type: multipart/mixed; boundary=" + boundary + end + end + body
	parts := []string{}
	for _, kid := range limb.Parse(raw).Kids {
		parts = append(parts, raw[kid.Head.From:kid.Body.To])
	}
	return parts
}

// P6.2
func TestParts(t *testing.T) {
	for _, c := range []struct {
		body string
		want []string
	}{
		// no part at all
		{"", nil}, {"x", nil}, {end, nil}, {"--", nil}, {"--" + end, nil}, {"-b" + end, nil}, {"b" + end, nil}, {"--B" + end, nil}, {" --b" + end, nil}, {"x--b" + end, nil}, {"---b" + end, nil},
		{"--bb" + end, nil}, {"--b-" + end, nil}, {"--b---" + end, nil}, {"--b x" + end, nil}, {"--b \tx", nil}, {"--b-- x" + end, nil}, {"--b --" + end, nil}, {"--b\r", nil}, {"--b\n", nil}, {"--b\r\r\n", nil}, {"--b\n\r\n", nil}, {"--b\x00" + end, nil},
		{"\r--b" + end, nil}, {"\n--b" + end, nil}, {"x\r--b" + end, nil}, {"x\n--b" + end + "y", nil}, {"\n\r--b" + end, nil}, {end + " --b" + end, nil},
		// last ones alone, and ahead of the first
		{"--b--", nil}, {"--b--" + end, nil}, {"--b--" + end + "--b" + end + "x", nil}, {"x" + end + "--b-- " + end + "--b" + end, nil},
		// one part
		{"--b", []string{""}},
		{"--b" + end, []string{""}},
		{"--b \t ", []string{""}},
		{"--b \t " + end, []string{""}},
		{"x" + end + "--b", []string{""}},
		{end + "--b" + end, []string{""}},
		{"--b" + end + "x", []string{"x"}},
		{"--b" + end + end, []string{end}},
		{"--b" + end + "x" + end, []string{"x" + end}},
		{"--b" + end + "--b--", []string{""}},
		{"--b" + end + "--b-- ", []string{""}},
		{"--b" + end + "--b--\t" + end, []string{""}},
		{"--b" + end + end + "--b--", []string{""}},
		{"--b" + end + end + end + "--b--", []string{end}},
		{"--b" + end + "x" + end + "--b--" + end + "y", []string{"x"}},
		{"--b" + end + "x" + end + "--b--x" + end, []string{"x" + end + "--b--x" + end}},
		{"--b" + end + "x\r--b--", []string{"x\r--b--"}},
		{"--b" + end + "x\n--b--", []string{"x\n--b--"}},
		{"--b" + end + "x\r\r\n--b--", []string{"x\r"}},
		{"--b" + end + "\n--b--", []string{"\n--b--"}},
		{"--b" + end + "\r--b--", []string{"\r--b--"}},
		{"--b" + end + "\n\r\n--b--", []string{"\n"}},
		{"--b" + end + "\r\r\n--b--", []string{"\r"}},
		{"\r" + end + "--b" + end, []string{""}},
		{"pre" + end + "--b" + end + "x" + end + "--b--" + end + "epi" + end + "--b" + end + "y" + end + "--b--", []string{"x"}},
		{"--b" + end + "x" + end + "--b--" + end + "--b--" + end + "--b", []string{"x"}},
		// several
		{"--b" + end + "--b", []string{"", ""}},
		{"--b" + end + "--b" + end + "--b" + end, []string{"", "", ""}},
		{"--b" + end + end + "--b" + end + end + end + "--b" + end + "x", []string{"", end, "x"}},
		{"--b" + end + "x" + end + "--b \t" + end + "y" + end + "--b\t--" + end + "z" + end + "--b--", []string{"x", "y" + end + "--b\t--" + end + "z"}},
		{"pre" + end + "--b" + end + "x" + end + "--b" + end + "y", []string{"x", "y"}},
		{"--b" + end + "x" + end + "--b" + end + "y" + end + "--b", []string{"x", "y", ""}},
		{"--b" + end + "\xff\x00" + end + "--b" + end + "--c" + end + "--b--", []string{"\xff\x00", "--c"}},
	} {
		if got := partsOf("b", c.body); !slices.Equal(got, c.want) {
			t.Errorf("%q: %q, not %q", c.body, got, c.want)
		}
		lookAtMessage(t, "Content-Type: multipart/mixed; boundary=b"+end+end+c.body)
	}
}

// P6.2: the boundary.
func TestBoundaries(t *testing.T) {
	long := strings.Repeat("0123456789", 7)
	for _, c := range []struct {
		value, line string
		is          bool
	}{
		{`""`, "--", false}, {`""`, "", false}, {`""`, "----", false},
		{"b", "--b", true}, {"B", "--b", false}, {"B", "--B", true},
		{`" "`, "-- ", true}, {`" "`, "--", false}, {`"b "`, "--b", false}, {`"b "`, "--b ", true}, {`" b"`, "-- b", true}, {`" b"`, "--b", false},
		{long, "--" + long, true}, {long[1:], "--" + long[1:], true}, {long[1:], "--" + long, false}, {long + "a", "--" + long + "a", false}, {long + "a", "--" + long, false},
		{`"--"`, "----", true}, {`"--"`, "--", false}, {`"b--"`, "--b--", true}, {`"b--"`, "--b", false}, {`"-"`, "---", true},
		{`"a\"b"`, `--a"b`, true}, {`"a\b"`, "--ab", true}, {`"a b"`, "--a b", true}, {"\"\xff\x00\"", "--\xff\x00", true},
		{"\"a\rb\"", "--a\rb", true}, {"\"a\nb\"", "--a\nb", true}, {"\"a\n\rb\"", "--a\n\rb", true}, {"\"a\r\"", "--a\r", true}, {"\"\na\"", "--\na", true},
		{"\"a\r\\\nb\"", "--a\r\nb", false}, {"\"a\r\\\n\"", "--a", false}, {"\"\r\\\n\"", "--", false},
		{"b; boundary=c", "--b", true}, {"b; boundary=c", "--c", false}, {"b; x=\"", "--b", true},
		{"", "--", false}, {`"b`, "--b", false}, {"(b", "--b", false}, {"(c)b", "--b", true},
	} {
		raw := "Content-Type: multipart/mixed; BOUNDARY=" + c.value + end + end + c.line + end + end + "x"
		if l := limb.Parse(raw); (len(l.Kids) == 1) != c.is || (l.Type == "multipart") != c.is {
			t.Errorf("the boundary %q, the line %q: %d kids, %s", c.value, c.line, len(l.Kids), l.Type)
		}
		lookAtMessage(t, raw)
	}
	for _, raw := range []string{"Content-Type: multipart/mixed", "Content-Type: multipart/mixed; boundaries=b", "Content-Type: multipar/mixed; boundary=b", "Content-Type: text/mixed; boundary=b", "Content-Type: text/multipart; boundary=b"} {
		if l := limb.Parse(raw + end + end + "--b" + end + end + "x"); len(l.Kids) != 0 {
			t.Errorf("%q: %d kids", raw, len(l.Kids))
		}
	}
}

// P6.2: bodies of many kinds, of boundaries of many kinds.
func TestBodiesOfManyKinds(t *testing.T) {
	r := rand.New(rand.NewPCG(6, 4))
	for range 20000 {
		boundary := oneOf(r, "b", "bb", "-", "--", "b--", "\r", "\n", "b\r", " ", "b\t")
		pieces := []string{end, end, "--", "-", "b", " ", "\t", "\r", "\n", "x", "--" + boundary, end + "--" + boundary, "--" + boundary + end, end + "--" + boundary + end, end + "--" + boundary + "--"}
		lookAtTree(t, "Content-Type: multipart/mixed; boundary=\""+boundary+"\""+end+end+pieced(r, 12, pieces...))
	}
}

// P6.3
func TestMessages(t *testing.T) {
	inside := wire("Subject: in\n\nbody\n")
	for _, c := range []struct {
		coding string
		is     bool
	}{
		{"", true}, {"7bit", true}, {"8bit", true}, {"binary", true}, {"7BIT", true}, {"8Bit", true}, {"BINARY", true}, {"(c) 8bit (d)", true}, {"(7bit)", true}, {"8bit; x", true},
		{"base64", false}, {"quoted-printable", false}, {"BASE64", false}, {"7", false}, {"bit", false}, {"7bits", false}, {"x-8bit", false}, {"9bit", false}, {"x", false},
	} {
		for _, kind := range []string{"message/rfc822", "Message/RFC822; a=b"} {
			raw := "Content-Type: " + kind + end + "Content-Transfer-Encoding: " + c.coding + end + end + inside
			l := limb.Parse(raw)
			if got := outline(l); (got == "r(t)") != c.is || (got == "a") == c.is {
				t.Errorf("the coding %q: %s", c.coding, got)
			}
			if c.is && (len(l.Kids) != 1 || raw[l.Kids[0].Head.From:l.Kids[0].Body.To] != inside) {
				t.Errorf("the coding %q: %+v", c.coding, l)
			}
			lookAtMessage(t, raw)
		}
	}
	for _, c := range []struct{ raw, want string }{
		{"Content-Type: message/rfc822", "r(t)"},
		{message(""), "r(t)"},
		{message(end), "r(t)"},
		{message(message("")), "r(r(t))"},
		{message(message(inside)), "r(r(t))"},
		{message(multi("b", inside)), "r(m(t))"},
		{message("Content-Type: multipart/mixed; boundary=b" + end + end), "r(a)"},
		{strings.Replace(message(inside), "rfc822", "rfc82", 1), "r"},
		{strings.Replace(message(inside), "rfc822", "global", 1), "r"},
		{strings.Replace(message(inside), "message", "text", 1), "t"},
		{strings.Replace(message(inside), "message", "messages", 1), ""},
	} {
		if got := outline(limb.Parse(c.raw)); got != c.want {
			t.Errorf("Parse(%q): %s, not %s", c.raw, got, c.want)
		}
		lookAtMessage(t, c.raw)
	}
}

// nested is a limb of that many others in one another, messages and multiparts by turns of kinds.
func nested(kinds string) string {
	raw := end + "bottom"
	for i := len(kinds) - 1; i >= 0; i-- {
		if kinds[i] == 'm' {
			raw = multi(fmt.Sprint("b", i), raw)
		} else {
			raw = message(raw)
		}
	}
	return raw
}

// P6.4: how deep limbs may lie.
func TestDepth(t *testing.T) {
	for _, c := range []struct{ kinds, want string }{
		{"", "t"},
		{"m", "m(t)"},
		{"mmmm", "m(m(m(m(t))))"},
		{"mmmmm", "m(m(m(m(m(t)))))"},
		{"mmmmmm", "m(m(m(m(m(a)))))"},
		{"mmmmmmmm", "m(m(m(m(m(a)))))"},
		{"rrrrr", "r(r(r(r(r(t)))))"},
		{"rrrrrr", "r(r(r(r(r(a)))))"},
		{"mrmrm", "m(r(m(r(m(t)))))"},
		{"mrmrmr", "m(r(m(r(m(a)))))"},
		{"rmrmrm", "r(m(r(m(r(a)))))"},
	} {
		raw := nested(c.kinds)
		if got := outline(limb.Parse(raw)); got != c.want {
			t.Errorf("%s: %s, not %s", c.kinds, got, c.want)
		}
		lookAtMessage(t, raw)
	}
	// One that is not opened, since it lies too deep, does not count.
	deep := multi("c", nested("mmmmm"), multi("d", "", ""), nested("rrrrr"))
	if got, want := outline(limb.Parse(deep)), "m(m(m(m(m(a)))) m(t t) r(r(r(r(a)))))"; got != want {
		t.Errorf("%s, not %s", got, want)
	}
	lookAtMessage(t, deep)
}

// repeated is a list of that many texts.
func repeated(n int, s string) []string { return slices.Repeat([]string{s}, n) }

// P6.4: how many there may be, in the order in which they stand.
func TestManyLimbs(t *testing.T) {
	many := func(n int) string { return multi("c", repeated(n, end+"x")...) }
	m := func(n int) string { return "m(" + strings.TrimSuffix(strings.Repeat("t ", n), " ") + ")" }
	row := func(l ...string) string { return "m(" + strings.Join(l, " ") + ")" }
	r := message(end + "x")
	for _, c := range []struct{ raw, want string }{
		{many(16), m(16)},
		{many(17), "a"},
		{many(18), "a"},
		{many(200), "a"},
		// what is left, by one limb and by several
		{multi("b", many(15)), row(m(15))},
		{multi("b", many(16)), row("a")},
		{multi("b", many(13), "x", "y"), row(m(13), "t", "t")},
		{multi("b", many(14), "x", "y"), row("a", "t", "t")},
		{multi("b", many(7), many(7)), row(m(7), m(7))},
		{multi("b", many(7), many(8)), row(m(7), "a")},
		{multi("b", many(8), many(7)), row(m(8), "a")},
		{multi("b", many(15), many(14)), row("a", m(14))},
		{multi("b", many(15), many(15)), row("a", "a")},
		{multi("b", many(10), many(5), many(3), many(1), r), row(m(10), "a", "a", m(1), "a")},
		{multi("b", many(9), many(5), many(3), many(1), r), row(m(9), "a", "a", m(1), "r(t)")},
		{multi("b", r, many(12), r), row("r(t)", m(12), "a")},
		{multi("b", r, many(11), r), row("r(t)", m(11), "r(t)")},
		{multi("b", r, many(13), r), row("r(t)", "a", "r(t)")},
		{multi("b", slices.Concat(repeated(15, end), []string{r})...), row(slices.Concat(repeated(15, "t"), []string{"a"})...)},
		{multi("b", slices.Concat(repeated(14, end), []string{r})...), row(slices.Concat(repeated(14, "t"), []string{"r(t)"})...)},
		{multi("b", slices.Concat([]string{r}, repeated(15, end))...), row(slices.Concat([]string{"a"}, repeated(15, "t"))...)},
		{multi("b", repeated(8, r)...), row(repeated(8, "r(t)")...)},
		{multi("b", repeated(9, r)...), row(append(repeated(7, "r(t)"), "a", "a")...)},
		// a part with all that lies in it stands ahead of the next one
		{multi("b", multi("d", many(12)), many(1)), row("m("+m(12)+")", m(1))},
		{multi("b", multi("d", many(12)), many(2)), row("m("+m(12)+")", "a")},
		{multi("b", multi("d", many(14)), many(13)), row("m(a)", m(13))},
		{multi("b", multi("d", many(14)), many(14)), row("m(a)", "a")},
		{message(many(15)), "r(" + m(15) + ")"},
		{message(many(16)), "r(a)"},
		{message(multi("b", many(14), r)), "r(m(a r(t)))"},
		{message(multi("b", many(13), r)), "r(m(" + m(13) + " a))"},
		{multi("b", message(many(13)), r), row("r("+m(13)+")", "a")},
		{multi("b", message(many(14)), r), row("r(a)", "r(t)")},
	} {
		if got := outline(limb.Parse(c.raw)); got != c.want {
			t.Errorf("Parse(%.200q): %s, not %s", c.raw, got, c.want)
		}
		lookAtTree(t, c.raw)
	}
}

// P6.4: what is left of a limb that is not opened.
func TestNotOpened(t *testing.T) {
	head := wire("Content-Transfer-Encoding: BASE64\nContent-Id: <a@b>\nContent-Description: about\nContent-Disposition: inline; x=y\nContent-Language: de\nContent-Location: z\n")
	for _, kind := range []string{"multipart/mixed", "multipart/mixed; boundary=b; x=y", "MULTIPART/x; boundary=\"\"", "message/rfc822; x=y", "multipart/digest; boundary=" + strings.Repeat("b", 71)} {
		raw := "Content-Type: " + kind + end + head + end + "a" + end + "b" + end
		want := api.Limb{
			Type: "application", Sub: "octet-stream",
			Id: some("<a@b>"), About: some("about"), Coding: some("base64"), Placed: some("inline"), PlacedParams: []api.Param{{Name: "x", Value: "y"}}, Langs: []string{"de"}, Where: some("z"),
			Head: api.Piece{To: len(raw) - 6}, Body: api.Piece{From: len(raw) - 6, To: len(raw)},
		}
		if l := limb.Parse(raw); !isSame(l, want) {
			t.Errorf("Parse(%q): %+v", raw, l)
		}
		lookAtMessage(t, raw)
	}
}

// P6.5
func TestLines(t *testing.T) {
	for _, c := range []struct {
		body string
		want int
	}{
		{"", 0}, {"x", 0}, {"x\r\n", 1}, {"\r\n", 1}, {"\r\n\r\n", 2}, {"a\r\nb", 1}, {"\r", 0}, {"\n", 0}, {"\n\r", 0}, {"\r\r\n\n", 1}, {"a\rb\nc", 0}, {"a\r\nb\r\nc\r\n", 3}, {"\n\r\n\r", 1},
	} {
		for kind, has := range map[string]bool{"text/plain": true, "TEXT/x": true, "": true, "image/png": false, "application/text": false, "message/rfc822": true, "message/partial": false, "message/rfc822 \r\nContent-Transfer-Encoding: base64": false, "multipart/mixed; boundary=b": false, "texts/plain": false} {
			raw := "Content-Type: " + kind + end + end + c.body
			want := c.want
			if !has {
				want = 0
			}
			if got := limb.Parse(raw).Lines; got != want {
				t.Errorf("Parse(%q): %d lines, not %d", raw, got, want)
			}
		}
	}
	raw := multi("b", wire("\na\nb\n"), message(wire("X: y\n\na\n")), multi("c", end))
	l := limb.Parse(raw)
	if l.Lines != 0 || l.Kids[0].Lines != 2 || l.Kids[1].Lines != 3 || l.Kids[1].Kids[0].Lines != 1 || l.Kids[2].Lines != 0 {
		t.Errorf("%+v", l)
	}
}

// places is the Places of a tree, from the first limb to the last.
func places(l api.Limb) string {
	var list []string
	for _, x := range all(l) {
		list = append(list, x.Place)
	}
	return strings.Join(list, " ")
}

// P6.6
func TestPlacesOfLimbs(t *testing.T) {
	two := func(boundary, a, b string) string { return multi(boundary, a, b) }
	text := end + "x"
	for _, c := range []struct{ raw, want string }{
		{text, ""},
		{two("b", text, text), " 1 2"},
		{two("b", two("c", text, text), text), " 1 1.1 1.2 2"},
		{two("b", text, two("c", text, two("d", text, text))), " 1 2 2.1 2.2 2.2.1 2.2.2"},
		{two("b", text, message(text)), " 1 2 2"},
		{two("b", text, message(two("c", text, text))), " 1 2 2 2.1 2.2"},
		{two("b", text, message(message(text))), " 1 2 2 2.1"},
		{two("b", text, message(message(message(text)))), " 1 2 2 2.1 2.1.1"},
		{two("b", text, message(message(two("c", text, text)))), " 1 2 2 2.1 2.1.1 2.1.2"},
		{two("b", text, message(two("c", text, message(text)))), " 1 2 2 2.1 2.2 2.2"},
		{two("b", text, two("c", text, message(message(text)))), " 1 2 2.1 2.2 2.2 2.2.1"},
		{message(text), " 1"},
		{message(two("b", text, text)), " 1 1.1 1.2"},
		{message(two("b", text, message(text))), " 1 1.1 1.2 1.2"},
		{message(message(text)), " 1 1.1"},
		{message(message(message(text))), " 1 1.1 1.1.1"},
		{message(message(two("b", text, text))), " 1 1.1 1.1.1 1.1.2"},
		{multi("b", repeated(11, text)...), " 1 2 3 4 5 6 7 8 9 10 11"},
		{multi("b", append(repeated(9, text), two("c", text, message(text)))...), " 1 2 3 4 5 6 7 8 9 10 10.1 10.2 10.2"},
	} {
		if got := places(limb.Parse(c.raw)); got != c.want {
			t.Errorf("Parse(%q): %q, not %q", c.raw, got, c.want)
		}
		lookAtMessage(t, c.raw)
	}
}
