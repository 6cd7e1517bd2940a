package limb_test

import (
	"fmt"
	"math/rand/v2"
	"reflect"
	"slices"
	"strings"
	"testing"

	"postbag/api"
	"postbag/limb"
)

const end = "\r\n"

// wire makes a text of lines as they are sent.
func wire(s string) string { return strings.ReplaceAll(s, "\n", end) }

// some is a text that is there.
func some(s string) api.Text { return api.Text{Is: true, S: s} }

// bytesOf is a piece's bytes.
func bytesOf(raw string, p api.Piece) string { return raw[p.From:p.To] }

// pieced puts random pieces one behind the other.
func pieced(r *rand.Rand, most int, pieces ...string) string {
	var out strings.Builder
	for range r.IntN(most + 1) {
		out.WriteString(pieces[r.IntN(len(pieces))])
	}
	return out.String()
}

func oneOf[E any](r *rand.Rand, l ...E) E { return l[r.IntN(len(l))] }

// room is the memory of a list, its spare room too.
type room struct{ from, to uintptr }

// rooms is the memory of all lists in a value, from the outermost inwards.
func rooms(v reflect.Value) []room {
	var all []room
	switch v.Kind() {
	case reflect.Struct:
		for i := range v.NumField() {
			all = append(all, rooms(v.Field(i))...)
		}
	case reflect.Slice:
		if size := uintptr(v.Cap()) * v.Type().Elem().Size(); size > 0 {
			all = append(all, room{v.Pointer(), v.Pointer() + size})
		}
		for i := range v.Len() {
			all = append(all, rooms(v.Index(i))...)
		}
	}
	return all
}

// lookAtRooms: W6: no two lists of what was handed in and answered share memory.
func lookAtRooms(t *testing.T, call string, values ...any) {
	t.Helper()
	var all []room
	for _, v := range values {
		all = append(all, rooms(reflect.ValueOf(v))...)
	}
	slices.SortFunc(all, func(a, b room) int {
		if a.from < b.from {
			return -1
		}
		return 1
	})
	for i := 1; i < len(all); i++ {
		if all[i].from < all[i-1].to {
			t.Errorf("%s: two lists share memory", call)
			return
		}
	}
}

// spacious is a list with spare room behind its end, which has elements too.
func spacious[E any](l []E) []E {
	return slices.Concat(l, l, make([]E, 2))[:len(l)]
}

// roomy is a limb of the same fields whose lists all have spare room.
func roomy(l api.Limb) api.Limb {
	l.Params, l.PlacedParams, l.Langs, l.Kids = spacious(l.Params), spacious(l.PlacedParams), spacious(l.Langs), spacious(l.Kids)
	for i, kid := range l.Kids {
		l.Kids[i] = roomy(kid)
	}
	return l
}

// shown is a limb as it stands in memory, the spare room of its lists too.
func shown(l api.Limb) string {
	out := fmt.Sprintf("%q %#v %q %v %v %v", []string{l.Place, l.Type, l.Sub}, []api.Text{l.Id, l.About, l.Coding, l.Placed, l.Where}, l.Langs[:cap(l.Langs)], l.Head, l.Body, l.Lines)
	out += fmt.Sprintf(" %q %q [", l.Params[:cap(l.Params)], l.PlacedParams[:cap(l.PlacedParams)])
	for _, kid := range l.Kids[:cap(l.Kids)] {
		out += " " + shown(kid)
	}
	return out + " ]"
}

// bare is a limb without the spare room and with nil for every empty list, so that DeepEqual sees its elements alone.
func bare(l api.Limb) api.Limb {
	kids := l.Kids
	l.Params, l.PlacedParams, l.Langs, l.Kids = append([]api.Param(nil), l.Params...), append([]api.Param(nil), l.PlacedParams...), append([]string(nil), l.Langs...), nil
	for _, kid := range kids {
		l.Kids = append(l.Kids, bare(kid))
	}
	return l
}

func isSame(a, b api.Limb) bool { return reflect.DeepEqual(bare(a), bare(b)) }

// scribble writes upon all lists of a limb, their spare room too.
func scribble(l api.Limb) {
	for _, kid := range l.Kids {
		scribble(kid)
	}
	for i := range l.Kids[:cap(l.Kids)] {
		l.Kids[:cap(l.Kids)][i] = api.Limb{Place: "scribbled", Kids: []api.Limb{{Place: "9"}, {Place: "9"}}}
	}
	for _, list := range [][]api.Param{l.Params, l.PlacedParams} {
		for i := range list[:cap(list)] {
			list[:cap(list)][i] = api.Param{Name: "scribbled"}
		}
	}
	for i := range l.Langs[:cap(l.Langs)] {
		l.Langs[:cap(l.Langs)][i] = "scribbled"
	}
}

// all is a limb and all that lies in it, from the first to the last.
func all(l api.Limb) []api.Limb {
	list := []api.Limb{l}
	for _, kid := range l.Kids {
		list = append(list, all(kid)...)
	}
	return list
}

// deepest is how deep the deepest limb lies.
func deepest(l api.Limb) int {
	deep := 0
	for _, kid := range l.Kids {
		deep = max(deep, deepest(kid)+1)
	}
	return deep
}

// outline is a tree in short: the types, and the kids of what is opened.
func outline(l api.Limb) string {
	kinds := map[string]string{"text": "t", "multipart": "m", "message": "r", "application": "a"}
	out := kinds[l.Type]
	if len(l.Kids) == 0 {
		return out
	}
	for i, kid := range l.Kids {
		out += map[bool]string{true: "(", false: " "}[i == 0] + outline(kid)
	}
	return out + ")"
}

// multi is a multipart of parts, without a preamble.
func multi(boundary string, parts ...string) string {
	raw := "Content-Type: multipart/mixed; boundary=\"" + boundary + "\"" + end + end
	for _, part := range parts {
		raw += "--" + boundary + end + part + end
	}
	return raw + "--" + boundary + "--" + end
}

// message is a message with another one in it.
func message(inside string) string { return "Content-Type: message/rfc822" + end + end + inside }

var someTypes = []string{
	"text/plain", "Text/HTML; charset=utf-8", "image/png; name=\"a b\"", "message/rfc822", "MESSAGE/Rfc822 (x)", "message/partial",
	"multipart/mixed", "multipart/mixed; boundary=\"\"", "text", "/x", "",
}

// someHeader is a random header without its empty line, of the type that is given.
func someHeader(r *rand.Rand, kind string) string {
	lines := []string{"Content-Type: " + kind + end}
	if kind == "" && r.IntN(2) == 0 {
		lines = nil
	}
	for _, line := range []string{
		"Content-Transfer-Encoding: " + oneOf(r, "7bit", "8BIT", "binary", "base64", "(c)", "x"),
		"Content-Id: " + oneOf(r, "<a@b>", ""),
		"Content-Description: " + oneOf(r, " about\t it ", ""),
		"Content-Location:" + oneOf(r, "http://x/", " \t"),
		"Content-Disposition: " + oneOf(r, "inline", "Attachment; filename=x; size=\"1\"", ";a=b", ""),
		"Content-Language: " + oneOf(r, "de", "DE, en,", ",", ""),
		"Subject: " + oneOf(r, "hi", "Re: hi", ""),
		"From: " + oneOf(r, "a@b", "Jo <a@b>, c@d", "g: x;", ""),
		oneOf(r, "no field", "Date: today", "Message-Id: <1@x>"),
	} {
		if r.IntN(6) == 0 {
			lines = append(lines, line+end)
		}
	}
	r.Shuffle(len(lines), func(i, j int) { lines[i], lines[j] = lines[j], lines[i] })
	return strings.Join(lines, "")
}

// someMessage is a random message, with others in it down to a depth.
func someMessage(r *rand.Rand, deep int) string {
	if r.IntN(12) == 0 {
		return oneOf(r, "", end, "a", "a: b"+end, end+end, "--b"+end, "\n\r"+end)
	}
	switch kind := r.IntN(8); {
	case deep > 0 && kind < 4:
		return someMultipart(r, deep)
	case deep > 0 && kind < 6:
		return someHeader(r, oneOf(r, "message/rfc822", "Message/RFC822; x=y")) + end + someMessage(r, deep-1)
	}
	return someHeader(r, oneOf(r, someTypes...)) + end + someText(r)
}

func someText(r *rand.Rand) string {
	return pieced(r, 5, "text", end, end, "\r", "\n", "--", "--b", "--a--", "\x00", "\xff", end+"--b"+end, " ")
}

func someMultipart(r *rand.Rand, deep int) string {
	boundary := oneOf(r, "a", "b", "b", "ab", "b-", "b--", "--", " ", "b ", "\\\"", "0123456789")
	quoted := `"` + strings.NewReplacer(`\`, `\\`, `"`, `\"`).Replace(boundary) + `"`
	raw := someHeader(r, "multipart/"+oneOf(r, "mixed", "MIXED", "digest", "Digest", "alternative")+"; boundary="+quoted) + end
	if r.IntN(4) == 0 {
		raw += someText(r) + end
	}
	for range oneOf(r, 0, 1, 1, 2, 2, 3, 4, 9) {
		raw += "--" + boundary + pieced(r, 1, "", "", "", " ", "\t ", "-", "--", "x") + end + someMessage(r, deep-1) + oneOf(r, end, end, end, end, "", "\n", end+end)
	}
	if r.IntN(4) > 0 {
		raw += "--" + boundary + "--" + oneOf(r, end, end, "", " ", " x") + someText(r)
	}
	return raw
}

// lookAtMessage holds all calls to what they promise of a message.
func lookAtMessage(t *testing.T, raw string) {
	t.Helper()
	lookAtTree(t, raw)
	l := limb.Parse(raw)
	lookAtPlaces(t, l)
	other := raw[:len(raw)/2]
	for _, bytes := range []string{raw, raw + "x", other, ""} {
		lookAtSections(t, bytes, l)
		lookAtStructure(t, bytes, l)
		lookAtBack(t, bytes, l)
	}
	lookAtLeaves(t, l)
	lookAtWholes(t, raw, l)
}

// P6.1 to P6.8, P6.10 to P6.13, P6.15 to P6.17: messages of many kinds.
func TestMessagesOfManyKinds(t *testing.T) {
	r := rand.New(rand.NewPCG(6, 1))
	most, deep := 0, 0
	for range 400 {
		raw := someMessage(r, r.IntN(9))
		if len(raw) > 5000 {
			continue
		}
		lookAtMessage(t, raw)
		l := limb.Parse(raw)
		most, deep = max(most, len(all(l))-1), max(deep, deepest(l))
	}
	if most != api.MaxLimbs || deep != api.MaxInside {
		t.Errorf("the messages had at most %d limbs, %d deep", most, deep)
	}
}

// P6.1 to P6.8, P6.10 to P6.13, P6.15 to P6.17: bytes of any kind.
func TestBytesOfManyKinds(t *testing.T) {
	r := rand.New(rand.NewPCG(6, 2))
	for range 1000 {
		lookAtMessage(t, pieced(r, 14, end, end, end+end, "--b", "--b--", "--b"+end, end+"--b"+end, end+"--b"+end+end, "Content-Type: multipart/mixed; boundary=b", "Content-Type: multipart/digest; boundary=b",
			"Content-Type: message/rfc822", "Content-Type: message/rfc822"+end+end, "Content-Transfer-Encoding: 8bit"+end, "Content-Type: ", "text/html", "; ", "a=b", "x", "\r", "\n", " ", "\xff"))
	}
}

// W1, P6.14: a limb that Parse never answers harms nobody.
func TestOtherLimbs(t *testing.T) {
	least, most := -1<<63, 1<<63-1
	pieces := []api.Piece{{}, {From: -1, To: 1}, {From: 1, To: 0}, {From: 0, To: 99}, {From: 99, To: 99}, {From: least, To: most}, {From: most, To: least}, {From: 2, To: 1}}
	for _, kind := range []string{"", "text", "multipart", "message", "application"} {
		for _, head := range pieces {
			for _, body := range pieces {
				leaf := api.Limb{Type: kind, Sub: "rfc822", Head: head, Body: body}
				for _, l := range []api.Limb{leaf, {Type: kind, Sub: "rfc822", Kids: []api.Limb{leaf, leaf}}} {
					for _, raw := range []string{"", "a: b\r\n\r\nc"} {
						for kind := -1; kind < 8; kind++ {
							for _, place := range []string{"", "1", "2", "1.1", "0", "-1"} {
								limb.Section(raw, l, api.Section{Place: place, Kind: kind})
								limb.At(l, place)
							}
						}
						limb.Structure(raw, l, true)
						limb.Back(raw, l)
						for range limb.Leaves(l) {
						}
					}
				}
			}
		}
	}
}

// P6.7, P6.10: a multipart or a message without Kids is not opened.
func TestLimbsWithoutKids(t *testing.T) {
	for _, l := range []api.Limb{{}, {Type: "multipart", Sub: "mixed"}, {Type: "message", Sub: "rfc822"}} {
		if x, is := limb.At(l, "1"); !is || x.Type != l.Type || x.Place != "1" {
			t.Errorf("At %+v: %+v %v", l, x, is)
		}
		if x, is := limb.At(l, "1.1"); is {
			t.Errorf("At %+v: %+v", l, x)
		}
		want := fmt.Sprintf(`(%q %q NIL NIL NIL "7bit" 0 NIL NIL NIL NIL)`, l.Type, l.Sub)
		if got := told(t, limb.Structure("", l, true)); got != want {
			t.Errorf("Structure %+v: %s", l, got)
		}
		if text, is := limb.Section("abc", l, api.Section{Place: "1", Kind: api.SectionHeader}); is || text != "" {
			t.Errorf("Section %+v: %q", l, text)
		}
	}
}

// P6.1 to P6.13: texts of many thousand brackets, boundary lines and parts; W1.
func TestLongTexts(t *testing.T) {
	const many = 200000
	repeated := func(s string) string { return strings.Repeat(s, many) }
	for name, raw := range map[string]string{
		"comments":         "Content-Type: text/html " + repeated("(") + end + end,
		"ended comments":   "Content-Type: " + repeated("(") + repeated(")") + "text/html" + end + end,
		"short comments":   "Content-Type: text/html" + repeated(" ()") + "; a=b" + end + end,
		"same parameters":  "Content-Type: text/html" + repeated(";a=b") + end + end,
		"parameters":       "Content-Type: text/html" + repeated(";a=\"b") + end + end,
		"backslashes":      "Content-Type: text/html; a=\"" + repeated(`\`) + `"` + end + end,
		"quotes":           "Content-Type: text/html; a=" + repeated(`"`) + end + end,
		"languages":        "Content-Language: " + repeated("de,") + end + end,
		"folds":            "Content-Type:" + repeated(end+" ") + "text/html" + end + end,
		"line ends":        repeated(end),
		"boundary lines":   "Content-Type: multipart/mixed; boundary=b" + end + end + repeated("--b"+end),
		"last ones":        "Content-Type: multipart/mixed; boundary=b" + end + end + "--b" + end + repeated("--b--"+end),
		"blanks":           "Content-Type: multipart/mixed; boundary=b" + end + end + "--b" + repeated(" ") + end + "--b" + repeated("\t"),
		"dashes":           "Content-Type: multipart/mixed; boundary=b" + end + end + repeated("-"),
		"nested multis":    strings.Repeat("Content-Type: multipart/mixed; boundary=b"+end+end+"--b"+end, 20000),
		"nested messages":  strings.Repeat("Content-Type: message/rfc822"+end+end, 20000),
		"nested digests":   "Content-Type: multipart/digest; boundary=b" + end + end + repeated("--b"+end+end),
		"texts of a multi": multi("b", repeated(" "), repeated("x"), repeated(end)),
	} {
		l := limb.Parse(raw)
		for _, whole := range []bool{false, true} {
			limb.Structure(raw, l, whole)
		}
		pieces := limb.Back(raw, l)
		if len(pieces) == 0 || pieces[len(pieces)-1].To != len(raw) {
			t.Errorf("%s: Back %v", name, pieces)
		}
		for x := range limb.Leaves(l) {
			if text, is := limb.Section(raw, l, api.Section{Place: x.Place, Kind: api.SectionWhole}); !is || !strings.HasSuffix(text, bytesOf(raw, x.Body)) {
				t.Errorf("%s: Section %q: %.90q", name, x.Place, text)
			}
		}
		if len(all(l)) > api.MaxLimbs+1 || deepest(l) > api.MaxInside {
			t.Errorf("%s: %d limbs, %d deep", name, len(all(l)), deepest(l))
		}
	}
}

// P6.1, P6.4: what becomes of some of the long texts.
func TestOutlinesOfLongTexts(t *testing.T) {
	for _, c := range []struct{ raw, want string }{
		{"Content-Type: multipart/mixed; boundary=b" + end + end + strings.Repeat("--b"+end, 100000), "a"},
		{"Content-Type: multipart/mixed; boundary=b" + end + end + "--b" + end + strings.Repeat("--b--"+end, 100000), "m(t)"},
		{strings.Repeat("Content-Type: message/rfc822"+end+end, 10000), "r(r(r(r(r(a)))))"},
		{strings.Repeat("Content-Type: multipart/mixed; boundary=b"+end+end+"--b"+end, 15), "m(" + strings.Repeat("a ", 14) + "t)"},
		{strings.Repeat("Content-Type: multipart/mixed; boundary=b"+end+end+"--b"+end, 17), "a"},
		{strings.Repeat("(", 100000) + ": x" + end + end, "t"},
	} {
		if got := outline(limb.Parse(c.raw)); got != c.want {
			t.Errorf("Parse(%.60q): %s, not %s", c.raw, got, c.want)
		}
	}
}
