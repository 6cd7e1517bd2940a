package limb_test

import (
	"fmt"
	"math/rand/v2"
	"reflect"
	"strings"
	"testing"

	"postbag/api"
	"postbag/letter"
	"postbag/limb"
)

// told is a value as a text; what its kind does not have must be zero.
func told(t *testing.T, v api.Value) string {
	t.Helper()
	own := v
	out := ""
	switch v.Kind {
	case api.ValueNil:
		out = "NIL"
	case api.ValueNumber:
		out, own.Num = fmt.Sprint(v.Num), 0
	case api.ValueString:
		out, own.Text = fmt.Sprintf("%q", v.Text), ""
	case api.ValueList:
		var list []string
		for _, kid := range v.Kids {
			list = append(list, told(t, kid))
		}
		out, own.Kids = "("+strings.Join(list, " ")+")", nil
	default:
		t.Errorf("the kind %d", v.Kind)
	}
	if own.Num != 0 || own.Text != "" || len(own.Kids) != 0 {
		t.Errorf("of the kind %d: %+v", v.Kind, v)
	}
	return out
}

// scribbleValue writes upon all lists of a value, their spare room too.
func scribbleValue(v api.Value) {
	for _, kid := range v.Kids {
		scribbleValue(kid)
	}
	for i := range v.Kids[:cap(v.Kids)] {
		v.Kids[:cap(v.Kids)][i] = api.Value{Kind: api.ValueString, Text: "scribbled"}
	}
}

func wantStr(t api.Text) string {
	if t.Is {
		return fmt.Sprintf("%q", t.S)
	}
	return "NIL"
}

// wantRow is a list of texts, or NIL.
func wantRow(row []string) string {
	if len(row) == 0 {
		return "NIL"
	}
	return "(" + strings.Join(row, " ") + ")"
}

func quoted(l ...string) []string {
	var out []string
	for _, s := range l {
		out = append(out, fmt.Sprintf("%q", s))
	}
	return out
}

func wantParamRow(params []api.Param) string {
	var row []string
	for _, p := range params {
		row = append(row, quoted(p.Name, p.Value)...)
	}
	return wantRow(row)
}

func wantAddressRow(l []api.Address) string {
	var row []string
	for _, a := range l {
		row = append(row, fmt.Sprintf("(%s %s %s %s)", wantStr(a.Name), wantStr(a.Route), wantStr(a.Box), wantStr(a.Host)))
	}
	return wantRow(row)
}

func wantEnvelope(e api.Envelope) string {
	return fmt.Sprintf("(%s %s %s %s %s %s %s %s %s %s)", wantStr(e.Date), wantStr(e.Subject), wantAddressRow(e.From), wantAddressRow(e.Sender), wantAddressRow(e.ReplyTo), wantAddressRow(e.To), wantAddressRow(e.Cc), wantAddressRow(e.Bcc), wantStr(e.InReplyTo), wantStr(e.MessageId))
}

// wantStructure writes down P6.10.
func wantStructure(raw string, l api.Limb, whole bool) string {
	rest := ""
	if whole {
		place := "NIL"
		if l.Placed.Is {
			place = fmt.Sprintf("(%q %s)", l.Placed.S, wantParamRow(l.PlacedParams))
		}
		rest = fmt.Sprintf(" %s %s %s", place, wantRow(quoted(l.Langs...)), wantStr(l.Where))
	}
	if l.Type == "multipart" {
		var row []string
		for _, kid := range l.Kids {
			row = append(row, wantStructure(raw, kid, whole))
		}
		if whole {
			rest = " " + wantParamRow(l.Params) + rest
		}
		return fmt.Sprintf("(%s %q%s)", strings.Join(row, " "), l.Sub, rest)
	}
	if whole {
		rest = " NIL" + rest
	}
	coding := l.Coding
	if !coding.Is {
		coding = some("7bit")
	}
	own := ""
	switch {
	case l.Type == "text":
		own = fmt.Sprintf(" %d", l.Lines)
	case l.Type == "message" && l.Sub == "rfc822":
		var fields []api.Field
		if p := l.Kids[0].Head; p.To <= len(raw) {
			fields = letter.Fields(bytesOf(raw, p))
		}
		own = fmt.Sprintf(" %s %s %d", wantEnvelope(letter.Envelope(fields)), wantStructure(raw, l.Kids[0], whole), l.Lines)
	}
	return fmt.Sprintf("(%q %q %s %s %s %s %d%s%s)", l.Type, l.Sub, wantParamRow(l.Params), wantStr(l.Id), wantStr(l.About), wantStr(coding), l.Body.To-l.Body.From, own, rest)
}

// lookAtStructure: P6.10, W6.
func lookAtStructure(t *testing.T, raw string, l api.Limb) {
	t.Helper()
	given := roomy(l)
	before := shown(given)
	for _, whole := range []bool{false, true} {
		want := wantStructure(raw, l, whole)
		for range 2 {
			v := limb.Structure(raw, given, whole)
			if got := told(t, v); got != want {
				t.Errorf("Structure(%.900q, %v): %s\nnot %s", raw, whole, got, want)
			}
			lookAtRooms(t, "Structure", given, v)
			scribbleValue(v)
		}
	}
	if after := shown(given); after != before {
		t.Errorf("Structure changed its limb: %s\nwas %s", after, before)
	}
}

// P6.10
func TestStructure(t *testing.T) {
	every := wire("Content-Type: Image/PNG; Name=\"A b\"; x=Y\nContent-Transfer-Encoding: BASE64\nContent-Id: <a@b>\nContent-Description: About\nContent-Disposition: Inline; a=B; c=d\nContent-Language: DE, en\nContent-Location: Here\n\nabc")
	empty := wire("Content-Type: image/png\nContent-Id:\nContent-Description:\nContent-Disposition:\nContent-Language:\nContent-Location:\nContent-Transfer-Encoding:\n\n")
	placed := wire("Content-Type: image/png\nContent-Disposition: inline\n\n")
	in := wire("Subject: in\nFrom: Jo <a@b>, g: c@d;\nMessage-Id: <1@x>\n\nbody\n")
	const nothing = "NIL NIL NIL NIL NIL NIL NIL NIL NIL NIL"
	const text0 = `"text" "plain" ("charset" "us-ascii") NIL NIL "7bit"`
	const jo = `(("Jo" NIL "a" "b") (NIL NIL "g" NIL) (NIL NIL "c" "d") (NIL NIL NIL NIL))`
	const envelope = `(NIL "in" ` + jo + " " + jo + " " + jo + ` NIL NIL NIL NIL "<1@x>")`
	for _, c := range []struct{ raw, short, rest string }{
		{"", "(" + text0 + " 0 0", " NIL NIL NIL NIL)"},
		{end + wire("a\nb\n"), "(" + text0 + " 6 2", " NIL NIL NIL NIL)"},
		{every, `("image" "png" ("name" "A b" "x" "Y") "<a@b>" "About" "base64" 3`, ` NIL ("inline" ("a" "B" "c" "d")) ("de" "en") "Here")`},
		{empty, `("image" "png" NIL "" "" "7bit" 0`, ` NIL NIL NIL "")`},
		{placed, `("image" "png" NIL NIL NIL "7bit" 0`, ` NIL ("inline" NIL) NIL NIL)`},
		{"Content-Type: text/html; a=\"\"" + end, `("text" "html" ("a" "") NIL NIL "7bit" 0 0`, ` NIL NIL NIL NIL)`},
		{"Content-Type: message/rfc822; a=b" + end + "Content-Transfer-Encoding: base64" + end, `("application" "octet-stream" NIL NIL NIL "base64" 0`, ` NIL NIL NIL NIL)`},
		{"Content-Type: message/delivery-status" + end + end + end, `("message" "delivery-status" NIL NIL NIL "7bit" 2`, ` NIL NIL NIL NIL)`},
		{"Content-Type: multipart/mixed; boundary=b" + end + end + "x", `("application" "octet-stream" NIL NIL NIL "7bit" 1`, ` NIL NIL NIL NIL)`},
	} {
		l := limb.Parse(c.raw)
		if got, want := told(t, limb.Structure(c.raw, l, false)), c.short+")"; got != want {
			t.Errorf("Structure(%q), short: %s\nnot %s", c.raw, got, want)
		}
		if got, want := told(t, limb.Structure(c.raw, l, true)), c.short+c.rest; got != want {
			t.Errorf("Structure(%q), whole: %s\nnot %s", c.raw, got, want)
		}
		lookAtMessage(t, c.raw)
	}
	for _, c := range []struct {
		raw   string
		whole bool
		want  string
	}{
		{message(in), false, `("message" "rfc822" NIL NIL NIL "7bit" 65 ` + envelope + " (" + text0 + " 6 1) 5)"},
		{message(in), true, `("message" "rfc822" NIL NIL NIL "7bit" 65 ` + envelope + " (" + text0 + " 6 1 NIL NIL NIL NIL) 5 NIL NIL NIL NIL)"},
		{"Content-Language: de" + end + message(""), true, `("message" "rfc822" NIL NIL NIL "7bit" 0 (` + nothing + ") (" + text0 + ` 0 0 NIL NIL NIL NIL) 0 NIL NIL ("de") NIL)`},
		{multi("b", end+"x", every), false, "((" + text0 + ` 1 0) ("image" "png" ("name" "A b" "x" "Y") "<a@b>" "About" "base64" 3) "mixed")`},
		{"Content-Disposition: INLINE; a=b" + end + "Content-Language: de" + end + "Content-Location: h" + end + "Content-Id: <i>" + end + multi("b", end+"x"), true, "((" + text0 + ` 1 0 NIL NIL NIL NIL) "mixed" ("boundary" "b") ("inline" ("a" "b")) ("de") "h")`},
		{multi("b", multi("c", end+"x"), message(multi("d", ""))), true, "(((" + text0 + ` 1 0 NIL NIL NIL NIL) "mixed" ("boundary" "c") NIL NIL NIL) ("message" "rfc822" NIL NIL NIL "7bit" 61 (` + nothing + ") ((" + text0 + ` 0 0 NIL NIL NIL NIL) "mixed" ("boundary" "d") NIL NIL NIL) 5 NIL NIL NIL NIL) "mixed" ("boundary" "b") NIL NIL NIL)`},
	} {
		if got := told(t, limb.Structure(c.raw, limb.Parse(c.raw), c.whole)); got != c.want {
			t.Errorf("Structure(%q, %v): %s\nnot %s", c.raw, c.whole, got, c.want)
		}
		lookAtMessage(t, c.raw)
	}
}

// P6.10: raw in which the inside's head does not lie, or lies elsewhere.
func TestStructureOfAnotherText(t *testing.T) {
	raw := message(wire("Subject: in\n\nbody\n"))
	l := limb.Parse(raw)
	for n := range len(raw) + 1 {
		lookAtStructure(t, raw[:n], l)
		lookAtStructure(t, strings.Replace(raw, "in", "IN", 1)[:n], l)
	}
	head := strings.Repeat("x", l.Kids[0].Head.From)
	for _, c := range []struct{ other, want string }{
		{"", "NIL NIL"}, {head, "NIL NIL"}, {head + "Subject: in\r\n\r", "NIL NIL"}, {head + "Date: other\r\nxy", `"other" NIL`}, {head + "Subject: in\r\n\r\n", `NIL "in"`}, {raw + raw, `NIL "in"`},
	} {
		got := told(t, limb.Structure(c.other, l, false))
		if want := `("message" "rfc822" NIL NIL NIL "7bit" 21 (` + c.want + " NIL NIL NIL NIL NIL NIL NIL NIL)"; !strings.HasPrefix(got, want) {
			t.Errorf("Structure(%q): %s", c.other, got)
		}
	}
}

// P6.11
func TestEnvelope(t *testing.T) {
	one := func(s string) []api.Address { return []api.Address{{Box: some(s)}} }
	full := api.Envelope{Date: some("d"), Subject: some("s"), From: one("f"), Sender: one("e"), ReplyTo: one("r"), To: one("t"), Cc: one("c"), Bcc: one("b"), InReplyTo: some("i"), MessageId: some("m")}
	for _, c := range []struct {
		e    api.Envelope
		want string
	}{
		{api.Envelope{}, "(NIL NIL NIL NIL NIL NIL NIL NIL NIL NIL)"},
		{full, `("d" "s" ((NIL NIL "f" NIL)) ((NIL NIL "e" NIL)) ((NIL NIL "r" NIL)) ((NIL NIL "t" NIL)) ((NIL NIL "c" NIL)) ((NIL NIL "b" NIL)) "i" "m")`},
		{api.Envelope{Date: some(""), Subject: some("\xff\r\n"), InReplyTo: some(""), MessageId: some("")}, `("" "\xff\r\n" NIL NIL NIL NIL NIL NIL "" "")`},
		{api.Envelope{To: []api.Address{{Name: some("n"), Route: some("r"), Box: some("b"), Host: some("h")}, {Name: some(""), Route: some(""), Box: some(""), Host: some("")}, {}}}, `(NIL NIL NIL NIL NIL (("n" "r" "b" "h") ("" "" "" "") (NIL NIL NIL NIL)) NIL NIL NIL NIL)`},
		{api.Envelope{From: []api.Address{}, Cc: letter.Addresses("g: a@b;, c")}, `(NIL NIL NIL NIL NIL NIL ((NIL NIL "g" NIL) (NIL NIL "a" "b") (NIL NIL NIL NIL) (NIL NIL "c" "")) NIL NIL NIL)`},
		{api.Envelope{Date: api.Text{S: "not there"}}, "(NIL NIL NIL NIL NIL NIL NIL NIL NIL NIL)"},
	} {
		if got := told(t, limb.Envelope(c.e)); got != c.want {
			t.Errorf("Envelope(%+v): %s, not %s", c.e, got, c.want)
		}
	}
}

// P6.11, W6: envelopes of many kinds.
func TestEnvelopesOfManyKinds(t *testing.T) {
	r := rand.New(rand.NewPCG(6, 6))
	someOrNone := func() api.Text {
		return oneOf(r, api.Text{}, some(""), some("a"), some("\x00\xff"), some("b c"))
	}
	list := func() []api.Address {
		var l []api.Address
		for range r.IntN(4) {
			l = append(l, api.Address{Name: someOrNone(), Route: someOrNone(), Box: someOrNone(), Host: someOrNone()})
		}
		return spacious(l)
	}
	for range 3000 {
		e := api.Envelope{Date: someOrNone(), Subject: someOrNone(), From: list(), Sender: list(), ReplyTo: list(), To: list(), Cc: list(), Bcc: list(), InReplyTo: someOrNone(), MessageId: someOrNone()}
		before := api.Envelope{}
		copyLists(&before, e)
		want := wantEnvelope(e)
		for range 2 {
			v := limb.Envelope(e)
			if got := told(t, v); got != want {
				t.Errorf("Envelope(%+v): %s, not %s", e, got, want)
			}
			lookAtRooms(t, "Envelope", e, v)
			scribbleValue(v)
		}
		after := api.Envelope{}
		copyLists(&after, e)
		if !reflect.DeepEqual(before, after) {
			t.Errorf("Envelope changed %+v to %+v", before, after)
		}
	}
}

// copyLists takes down an envelope's lists, their spare room too.
func copyLists(to *api.Envelope, e api.Envelope) {
	from := []*[]api.Address{&e.From, &e.Sender, &e.ReplyTo, &e.To, &e.Cc, &e.Bcc}
	for i, list := range []*[]api.Address{&to.From, &to.Sender, &to.ReplyTo, &to.To, &to.Cc, &to.Bcc} {
		*list = append(*list, (*from[i])[:cap(*from[i])]...)
	}
}
