package limb_test

import (
	"fmt"
	"math/rand/v2"
	"slices"
	"strings"
	"testing"

	"postbag/api"
	"postbag/letter"
	"postbag/limb"
)

// wantPlaces is every place that P6.7 reaches, with what it reaches.
func wantPlaces(l api.Limb) map[string]api.Limb {
	reached := map[string]api.Limb{"": l}
	var from func(l api.Limb, isInside bool, place string)
	reach := func(l api.Limb, place string, number int) {
		place = strings.TrimPrefix(fmt.Sprintf("%s.%d", place, number), ".")
		reached[place] = l
		from(l, false, place)
	}
	from = func(l api.Limb, isInside bool, place string) {
		switch {
		case l.Type == "multipart":
			for i, kid := range l.Kids {
				reach(kid, place, i+1)
			}
		case isInside:
			reach(l, place, 1)
		case l.Type == "message" && l.Sub == "rfc822":
			from(l.Kids[0], true, place)
		}
	}
	from(l, true, "")
	return reached
}

// nearby is places that are there, and others like them.
func nearby(reached map[string]api.Limb) []string {
	list := []string{"0", "1", "2", "17", "01", "1.", ".1", "1..1", ".", "x", "1x", "-1", "+1", " 1", "1 ", "1.0", "1.01", "1.1.1.1.1.1.1.1", "99999999999999999999", "18446744073709551617"}
	for place := range reached {
		list = append(list, place, place+".", "."+place, place+".0", place+".1", place+".2", place+".01", "0"+place, place+"0", place+"1", place+".x", place+" ", "1."+place)
	}
	slices.Sort(list)
	return slices.Compact(list)
}

// lookAtPlaces: P6.7, W6.
func lookAtPlaces(t *testing.T, l api.Limb) {
	t.Helper()
	reached := wantPlaces(l)
	given := roomy(l)
	before := shown(given)
	for _, place := range nearby(reached) {
		want, isThere := reached[place]
		if isThere {
			want.Place = place
		}
		for range 2 {
			got, is := limb.At(given, place)
			if is != isThere || !isSame(got, want) {
				t.Errorf("At(%s, %q): %+v %v, not %+v", outline(l), place, got, is, want)
				return
			}
			lookAtRooms(t, "At", given, got)
			scribble(got)
		}
	}
	if after := shown(given); after != before {
		t.Errorf("At changed its limb: %s\nwas %s", after, before)
	}
}

// P6.7: the examples of the chapter.
func TestAt(t *testing.T) {
	m := limb.Parse(wire("Content-Type: multipart/mixed; boundary=b\n\npre\n--b\n\none\n--b \nContent-Type: text/html\n\ntwo\n--b--\nepi\n"))
	text := limb.Parse("hi")
	r := limb.Parse(message(wire("Subject: in\n\nbody")))
	for _, c := range []struct {
		l     api.Limb
		place string
		want  string
	}{
		{m, "", "multipart/mixed"}, {m, "1", "text/plain"}, {m, "2", "text/html"}, {m, "3", ""}, {m, "1.1", ""}, {m, "01", ""}, {m, "0", ""}, {m, "2.1", ""}, {m, "1.2", ""}, {m, "4294967298", ""}, {m, "18446744073709551617", ""},
		{text, "", "text/plain"}, {text, "1", "text/plain"}, {text, "2", ""}, {text, "1.1", ""}, {text, "0", ""}, {text, "01", ""}, {text, "11", ""},
		{r, "", "message/rfc822"}, {r, "1", "message/rfc822"}, {r, "1.1", "text/plain"}, {r, "1.2", ""}, {r, "2", ""}, {r, "1.1.1", ""},
		{api.Limb{}, "", "/"}, {api.Limb{}, "1", "/"}, {api.Limb{}, "2", ""},
	} {
		l, is := limb.At(c.l, c.place)
		if !is {
			if !isSame(l, api.Limb{}) || c.want != "" {
				t.Errorf("At(%s, %q): %+v, false", outline(c.l), c.place, l)
			}
			continue
		}
		if got := l.Type + "/" + l.Sub; got != c.want || l.Place != c.place {
			t.Errorf("At(%s, %q): %s, Place %q, not %s", outline(c.l), c.place, got, l.Place, c.want)
		}
	}
	for b := range 256 {
		place := string([]byte{byte(b)})
		for _, place := range []string{place, place + "1", "1" + place, "1" + place + "1"} {
			_, is := limb.At(m, place)
			if is != (place == "1" || place == "2") {
				t.Errorf("At(m, %q): %v", place, is)
			}
		}
	}
}

// P6.7: places of messages in messages, reached as a part and as an inside.
func TestAtInside(t *testing.T) {
	text := func(s string) string { return "Content-Description: " + s + end + end + s }
	of := func(s, raw string) string { return "Content-Description: " + s + end + raw }
	raw := of("whole", multi("b", text("a"), of("b", message(of("c", message(of("d", multi("c", text("e"), of("f", message(text("g")))))))))))
	l := limb.Parse(raw)
	for _, c := range []struct{ place, want string }{
		{"", "whole"}, {"1", "a"}, {"2", "b"}, {"2.1", "c"}, {"2.1.1", "e"}, {"2.1.2", "f"}, {"2.1.2.1", "g"}, {"2.1.2.1.1", missing}, {"2.1.2.2", missing}, {"2.1.3", missing}, {"2.2", missing}, {"1.1", missing}, {"2.1.1.1", missing},
	} {
		x, is := limb.At(l, c.place)
		if got := ifThere(x.About); got != c.want || is != (c.want != missing) {
			t.Errorf("At(%s, %q): %s", outline(l), c.place, got)
		}
	}
	shallow := limb.Parse(of("whole", message(of("c", message(of("d", multi("c", text("e"), of("f", message(text("g")))))))))) // one message less
	for _, c := range []struct{ place, want string }{
		{"", "whole"}, {"1", "whole"}, {"1.1", "c"}, {"1.1.1", "e"}, {"1.1.2", "f"}, {"1.1.2.1", "g"}, {"1.1.2.1.1", missing}, {"2", missing}, {"1.2", missing},
	} {
		x, is := limb.At(shallow, c.place)
		if got := ifThere(x.About); got != c.want || is != (c.want != missing) {
			t.Errorf("At(%s, %q): %s", outline(shallow), c.place, got)
		}
	}
	lookAtPlaces(t, l)
	lookAtPlaces(t, shallow)
}

// P6.6, P6.7: a part is found by its own Place, and stands as it is.
func TestPartsByTheirPlace(t *testing.T) {
	r := rand.New(rand.NewPCG(6, 5))
	for range 1000 {
		l := limb.Parse(someMessage(r, 6))
		for _, x := range all(l) {
			if x.Type != "multipart" {
				continue
			}
			for _, kid := range x.Kids {
				if got, is := limb.At(l, kid.Place); !is || !isSame(got, kid) {
					t.Errorf("At(%s, %q): %+v %v", outline(l), kid.Place, got, is)
				}
			}
		}
	}
}

// P6.7: very long places.
func TestLongPlaces(t *testing.T) {
	const many = 200000
	for _, raw := range []string{"x", nested("mmmmm"), nested("rrrrr"), nested("mrmrm")} {
		l := limb.Parse(raw)
		for _, place := range []string{strings.Repeat("1.", many), strings.Repeat("1.", many) + "1", strings.Repeat("1", many), strings.Repeat(".", many), strings.Repeat("0", many) + "1", "1." + strings.Repeat("9", many), "1" + strings.Repeat(".01", many)} {
			if x, is := limb.At(l, place); is || !isSame(x, api.Limb{}) {
				t.Errorf("At(%s, %.20q): %+v", outline(l), place, x)
			}
			if text, is := limb.Section(raw, l, api.Section{Place: place}); is || text != "" {
				t.Errorf("Section(%s, %.20q): %q", outline(l), place, text)
			}
		}
	}
}

// wantSection reads the table of P6.8.
func wantSection(raw string, l api.Limb, s api.Section, reached map[string]api.Limb) (string, bool) {
	x, isThere := reached[s.Place]
	if !isThere {
		return "", false
	}
	if s.Place == "" && s.Kind == 0 {
		return raw, true
	}
	inside := x
	if s.Place != "" {
		inside = api.Limb{Head: api.Piece{From: -1}, Body: api.Piece{From: -1}}
		if x.Type == "message" && x.Sub == "rfc822" {
			inside = x.Kids[0]
		}
	}
	p := api.Piece{From: -1}
	switch {
	case s.Kind == 0:
		p = x.Body
	case s.Kind >= 1 && s.Kind <= 3:
		p = inside.Head
	case s.Kind == 4:
		p = inside.Body
	case s.Kind == 5 && s.Place != "":
		p = x.Head
	}
	if p.From < 0 || p.To > len(raw) {
		return "", false
	}
	text := raw[p.From:p.To]
	switch s.Kind {
	case 2:
		text = letter.Pick(text, false, s.Names...)
	case 3:
		text = letter.Pick(text, true, s.Names...)
	}
	return text, true
}

var someNames = [][]string{nil, {"subject"}, {"CONTENT-TYPE", "x", ""}, {"From", "Subject", "content-id"}}

// lookAtSections: P6.8, P6.16, W6.
func lookAtSections(t *testing.T, raw string, l api.Limb) {
	t.Helper()
	given := roomy(l)
	before := shown(given)
	reached := wantPlaces(l)
	places := []string{"1", "2", "0", "x", "1.1.1.1"}
	for place := range reached {
		places = append(places, place, place+".1", place+".")
	}
	for _, place := range places {
		for kind := -1; kind <= 7; kind++ {
			names := someNames[(len(place)+len(raw))%len(someNames)]
			spare := spacious(names)
			s := api.Section{Place: place, Kind: kind, Names: spare}
			want, isThere := wantSection(raw, l, s, reached)
			if got, is := limb.Section(raw, given, s); got != want || is != isThere {
				t.Errorf("Section(%.900q, %s, %q %d): %q %v, not %q %v", raw, outline(l), place, kind, got, is, want, isThere)
			}
			if !slices.Equal(spare[:cap(spare)], spacious(names)[:cap(spare)]) {
				t.Errorf("Section(%s, %q %d) changed its names: %q", outline(l), place, kind, spare[:cap(spare)])
			}
		}
	}
	if after := shown(given); after != before {
		t.Errorf("Section changed its limb: %s\nwas %s", after, before)
	}
}

// P6.8: the examples of the chapter, and others.
func TestSection(t *testing.T) {
	r := message(wire("Subject: in\n\nbody"))
	m := multi("b", end+"one", wire("Content-Type: message/rfc822\nX: y\n\nSubject: in\nFrom: a@b\n\ninner"), wire("Content-Type: text/html\nSubject: z\n\ntwo"))
	for _, c := range []struct {
		raw   string
		place string
		kind  int
		names []string
		want  string
		is    bool
	}{
		{r, "", api.SectionWhole, nil, r, true},
		{r, "", api.SectionHeader, nil, wire("Content-Type: message/rfc822\n\n"), true},
		{r, "", api.SectionText, nil, wire("Subject: in\n\nbody"), true},
		{r, "", api.SectionMime, nil, "", false},
		{r, "", api.SectionFields, []string{"subject"}, end, true},
		{r, "", api.SectionOthers, []string{"subject"}, wire("Content-Type: message/rfc822\n\n"), true},
		{r, "", 6, nil, "", false},
		{r, "", -1, nil, "", false},
		{r, "1", api.SectionHeader, nil, wire("Subject: in\n\n"), true},
		{r, "1", api.SectionWhole, nil, wire("Subject: in\n\nbody"), true},
		{r, "1", api.SectionText, nil, "body", true},
		{r, "1", api.SectionFields, []string{"X", "SUBJECT"}, wire("Subject: in\n\n"), true},
		{r, "1", api.SectionOthers, []string{"SUBJECT"}, end, true},
		{r, "1", api.SectionMime, nil, wire("Content-Type: message/rfc822\n\n"), true},
		{r, "1", 6, nil, "", false},
		{r, "1.1", api.SectionWhole, nil, "body", true},
		{r, "1.1", api.SectionMime, nil, wire("Subject: in\n\n"), true},
		{r, "1.1", api.SectionHeader, nil, "", false},
		{r, "1.1", api.SectionText, nil, "", false},
		{r, "1.1", api.SectionFields, nil, "", false},
		{r, "1.1", api.SectionOthers, nil, "", false},
		{r, "2", api.SectionWhole, nil, "", false},
		{m, "", api.SectionWhole, nil, m, true},
		{m, "1", api.SectionWhole, nil, "one", true},
		{m, "1", api.SectionMime, nil, end, true},
		{m, "1", api.SectionHeader, nil, "", false},
		{m, "1", api.SectionText, nil, "", false},
		{m, "2", api.SectionWhole, nil, wire("Subject: in\nFrom: a@b\n\ninner"), true},
		{m, "2", api.SectionHeader, nil, wire("Subject: in\nFrom: a@b\n\n"), true},
		{m, "2", api.SectionFields, []string{"from"}, wire("From: a@b\n\n"), true},
		{m, "2", api.SectionOthers, []string{"from"}, wire("Subject: in\n\n"), true},
		{m, "2", api.SectionFields, nil, end, true},
		{m, "2", api.SectionOthers, nil, wire("Subject: in\nFrom: a@b\n\n"), true},
		{m, "2", api.SectionText, nil, "inner", true},
		{m, "2", api.SectionMime, nil, wire("Content-Type: message/rfc822\nX: y\n\n"), true},
		{m, "2.1", api.SectionWhole, nil, "inner", true},
		{m, "3", api.SectionFields, []string{"subject"}, "", false},
		{m, "3", api.SectionMime, nil, wire("Content-Type: text/html\nSubject: z\n\n"), true},
		{m, "4", api.SectionWhole, nil, "", false},
		{"", "", api.SectionWhole, nil, "", true},
		{"", "", api.SectionHeader, nil, "", true},
		{"", "", api.SectionText, nil, "", true},
		{"", "", api.SectionFields, []string{"x"}, end, true},
		{"", "1", api.SectionWhole, nil, "", true},
		{"", "1", api.SectionMime, nil, "", true},
	} {
		s := api.Section{Place: c.place, Kind: c.kind, Names: c.names}
		if got, is := limb.Section(c.raw, limb.Parse(c.raw), s); got != c.want || is != c.is {
			t.Errorf("Section(%q, %q %d %q): %q %v, not %q %v", c.raw, c.place, c.kind, c.names, got, is, c.want, c.is)
		}
	}
}

// P6.8: another text than the one that the limb was read from.
func TestSectionOfAnotherText(t *testing.T) {
	raw := multi("b", end+"one", message(wire("Subject: in\n\ninner")), end+"last")
	l := limb.Parse(raw)
	other := strings.Map(func(c rune) rune { return c ^ 1 }, raw)
	for n := range len(raw) + 1 {
		for _, bytes := range []string{raw[:n], other[:n], other + raw[:n]} {
			lookAtSections(t, bytes, l)
		}
	}
	// A piece of no bytes lies in raw up to its end, and no further.
	l = limb.Parse("a: b" + end + end)
	for n := range 12 {
		got, is := limb.Section(strings.Repeat("x", n), l, api.Section{Kind: api.SectionText})
		if got != "" || is != (n >= 8) {
			t.Errorf("Section of %d bytes: %q %v", n, got, is)
		}
	}
}

// P6.9
func TestPartial(t *testing.T) {
	most, least := 1<<63-1, -1<<63
	for _, c := range []struct {
		s       string
		from, n int
		want    string
	}{
		{"hello", 1, 3, "ell"}, {"hello", 9, 1, ""}, {"hello", -1, 9, ""}, {"hello", 0, 5, "hello"}, {"hello", 0, 6, "hello"}, {"hello", 0, 4, "hell"}, {"hello", 0, 0, ""}, {"hello", 4, 1, "o"}, {"hello", 4, 2, "o"}, {"hello", 5, 0, ""}, {"hello", 5, 1, ""}, {"hello", 6, 0, ""},
		{"hello", 0, -1, ""}, {"hello", 1, -1, ""}, {"hello", -1, -1, ""}, {"hello", -5, 5, ""},
		{"hello", 0, most, "hello"}, {"hello", 1, most, "ello"}, {"hello", 4, most, "o"}, {"hello", 5, most, ""}, {"hello", most, most, ""}, {"hello", most, 1, ""}, {"hello", most, 0, ""},
		{"hello", least, most, ""}, {"hello", 0, least, ""}, {"hello", least, least, ""}, {"hello", most, least, ""}, {"hello", least, 0, ""},
		{"", 0, 0, ""}, {"", 0, 1, ""}, {"", 1, 1, ""}, {"", 0, most, ""}, {"\xff\x00\xc3\xa9", 1, 2, "\x00\xc3"},
	} {
		if got := limb.Partial(c.s, c.from, c.n); got != c.want {
			t.Errorf("Partial(%q, %d, %d): %q, not %q", c.s, c.from, c.n, got, c.want)
		}
	}
}

// P6.9, P6.16: byte by byte, and neighbouring ranges.
func TestPartialsJoined(t *testing.T) {
	const s = "0123456"
	for from := -2; from < 10; from++ {
		for n := -2; n < 10; n++ {
			want := ""
			for i := range s {
				if from >= 0 && i >= from && i < from+n {
					want += s[i : i+1]
				}
			}
			if got := limb.Partial(s, from, n); got != want {
				t.Errorf("Partial(%q, %d, %d): %q, not %q", s, from, n, got, want)
			}
		}
	}
	for n := range 10 {
		for m := range 10 {
			if got := limb.Partial(s, 0, n) + limb.Partial(s, n, m); got != limb.Partial(s, 0, n+m) {
				t.Errorf("%d and %d: %q", n, m, got)
			}
		}
		if got := limb.Partial(s, 0, n) + limb.Partial(s, n, 1<<63-1-n); got != s {
			t.Errorf("%d and all the rest: %q", n, got)
		}
	}
}

// lookAtWholes: P6.16: header and text joined.
func lookAtWholes(t *testing.T, raw string, l api.Limb) {
	t.Helper()
	for place, x := range wantPlaces(l) {
		isMessage := x.Type == "message" && x.Sub == "rfc822"
		head, isHead := limb.Section(raw, l, api.Section{Place: place, Kind: api.SectionHeader})
		text, isText := limb.Section(raw, l, api.Section{Place: place, Kind: api.SectionText})
		whole, isWhole := limb.Section(raw, l, api.Section{Place: place, Kind: api.SectionWhole})
		if place != "" && !isMessage {
			if isHead || isText || !isWhole {
				t.Errorf("Section(%.900q, %q): %v %v %v", raw, place, isHead, isText, isWhole)
			}
			continue
		}
		if !isHead || !isText || !isWhole || head+text != whole {
			t.Errorf("Section(%.900q, %q): %q and %q, not %q", raw, place, head, text, whole)
		}
	}
}
