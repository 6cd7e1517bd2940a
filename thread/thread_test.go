package thread_test

import (
	"fmt"
	"math/rand/v2"
	"reflect"
	"slices"
	"strings"
	"testing"

	"postbag/api"
	"postbag/thread"
)

const (
	end   = "\r\n"
	least = -1 << 63
	most  = 1<<63 - 1
)

func oneOf[E any](r *rand.Rand, l ...E) E { return l[r.IntN(len(l))] }

// times is a list of equal elements.
func times[E any](n int, e E) []E { return slices.Repeat([]E{e}, n) }

// room is the memory of a list, its spare room too.
type room struct{ from, to uintptr }

// rooms is the memory of all lists in a value.
func rooms(v reflect.Value) []room {
	var all []room
	switch v.Kind() {
	case reflect.Struct:
		for i := range v.NumField() {
			all = append(all, rooms(v.Field(i))...)
		}
	case reflect.Slice:
		if size := uintptr(v.Cap()) * v.Type().Elem().Size(); size > 0 {
			all = append(all, room{v.Pointer(), v.Pointer() + size})
		}
		for i := range v.Len() {
			all = append(all, rooms(v.Index(i))...)
		}
	}
	return all
}

// lookAtRooms: W6: no two lists of what was handed in and answered share memory.
func lookAtRooms(t *testing.T, call string, values ...any) {
	t.Helper()
	var all []room
	for _, v := range values {
		all = append(all, rooms(reflect.ValueOf(v))...)
	}
	slices.SortFunc(all, func(a, b room) int {
		if a.from < b.from {
			return -1
		}
		return 1
	})
	for i := 1; i < len(all); i++ {
		if all[i].from < all[i-1].to {
			t.Errorf("%s: two lists share memory", call)
			return
		}
	}
}

// spacious is a list with spare room behind its end, which has elements too.
func spacious[E any](l []E) []E { return slices.Concat(l, l, make([]E, 2))[:len(l)] }

// whole is a list with its spare room.
func whole[E any](l []E) []E { return l[:cap(l)] }

// roomyCards is a copy of cards whose lists all have spare room.
func roomyCards(cards []api.Card) []api.Card {
	cards = spacious(cards)
	for i := range cards {
		cards[i].Refs = spacious(cards[i].Refs)
	}
	return cards
}

// shownCards is cards as they stand in memory, spare room too.
func shownCards(cards []api.Card) string {
	var out strings.Builder
	for _, c := range whole(cards) {
		fmt.Fprintf(&out, "%+v %q;", c, whole(c.Refs))
	}
	return out.String()
}

// shownTwigs is twigs as a text, whatever they are.
func shownTwigs(twigs []api.Twig) string {
	var out strings.Builder
	showTwigs(&out, twigs)
	return out.String()
}

func showTwigs(out *strings.Builder, twigs []api.Twig) {
	out.WriteByte('[')
	for _, t := range twigs {
		fmt.Fprintf(out, " %d", t.Uid)
		if len(t.Kids) > 0 {
			showTwigs(out, t.Kids)
		}
	}
	out.WriteByte(']')
}

// roomyTwigs is a copy of twigs whose lists all have spare room.
func roomyTwigs(twigs []api.Twig) []api.Twig {
	twigs = spacious(twigs)
	for i := range twigs {
		twigs[i].Kids = roomyTwigs(twigs[i].Kids)
	}
	return twigs
}

func scribbleTwigs(twigs []api.Twig) {
	for _, t := range twigs {
		scribbleTwigs(t.Kids)
	}
	for i := range whole(twigs) {
		whole(twigs)[i] = api.Twig{Uid: 99, Kids: []api.Twig{{Uid: 98}}}
	}
}

func twig(uid int, kids ...api.Twig) api.Twig { return api.Twig{Uid: uid, Kids: kids} }

// aMinute is the arrival of the messages here, unless they have another.
func aMinute() api.Moment { return api.Moment{Year: 1970, Month: 1, Day: 1, Minute: 1} }

// look: Card of a message with this text is want, but for what every message has.
func look(t *testing.T, raw string, want api.Card) {
	t.Helper()
	want.Seq, want.Uid, want.Size, want.Arrival = 7, 8, len(raw), 60
	if want.Sent == 0 {
		want.Sent = 60
	}
	got := thread.Card(api.Mail{Seq: 7, Uid: 8, Modseq: 9, Flags: []string{`\Seen`}, Recent: true, Date: aMinute(), Raw: raw})
	if len(got.Refs) == 0 {
		got.Refs = nil
	}
	if !reflect.DeepEqual(got, want) {
		t.Errorf("Card(%.200q): %+v, not %+v", raw, got, want)
	}
}

// P8.1: each field by itself.
func TestCardFields(t *testing.T) {
	for _, c := range []struct {
		raw  string
		want api.Card
	}{
		{"", api.Card{}},
		{end, api.Card{}},
		{"no field" + end, api.Card{}},
		{"From: B@x\r\nSubject: Re: Hi\r\nMessage-Id: <a@b>\r\nIn-Reply-To: <c@d> <e@f>\r\n\r\n", api.Card{From: "b", Subject: "hi", Reply: true, Id: "a@b", Refs: []string{"c@d"}}},

		{"Date: 1 Jan 1970 00:00:05 +0000", api.Card{Sent: 5}},
		{"dATE: Thu, 1 Jan 1970 01:00:00 -0100\r\n", api.Card{Sent: 7200}},
		{"Date: 1 Jan 1970 00:00 +0100\r\n", api.Card{Sent: -3600}},
		{"Date:\r\n", api.Card{}},
		{"Date: 30 Feb 2000 00:00 +0000\r\n", api.Card{}},
		{"Date: yesterday\r\nDate: 1 Jan 1970 00:00:05 +0000\r\n", api.Card{}},
		{"Date: 1 Jan 1970 00:00:05 +0000\r\nDate: 1 Jan 1970 00:00:09 +0000\r\n", api.Card{Sent: 5}},
		{"Date: 1 Jan 1970\r\n 00:00:05\r\n\t+0000\r\n", api.Card{Sent: 5}},
		{"\r\nDate: 1 Jan 1970 00:00:05 +0000\r\n", api.Card{}},
		{"X: y\r\n\r\nFrom: a@b\r\nSubject: s\r\n", api.Card{}},

		{"From:\r\n", api.Card{}},
		{"From: ,\r\n", api.Card{}},
		{"From: (nobody)\r\n", api.Card{}},
		{"From:\r\nFrom: a@b\r\n", api.Card{}},
		{"From: a@b\r\nFrom: c@d\r\n", api.Card{From: "a"}},
		{"FROM : Joe <JoE.X@B>, c@d\r\n", api.Card{From: "joe.x"}},
		{"From: <>\r\n", api.Card{}},
		{"From: <>, a@b\r\n", api.Card{}},
		{"From: @b\r\n", api.Card{}},
		{"From: \"A B\"@b\r\n", api.Card{From: "a b"}},
		{"From: =?utf-8?q?X?= <\u00c9A@b>\r\n", api.Card{From: "\u00c9a"}},
		{"From: Team: A@b, c@d;\r\n", api.Card{From: "team"}},
		{"From: : A@b;\r\n", api.Card{}},
		{"From: nohost\r\n", api.Card{From: "nohost"}},
		{"tO: A@b, c@d\r\nTo: e@f\r\n", api.Card{To: "a"}},
		{"To: G:;\r\n", api.Card{To: "g"}},
		{"cc: <@r:A@b>\r\n", api.Card{Cc: "a"}},
		{"CC: c@d\r\nTo: t@d\r\nFrom: f@d\r\n", api.Card{From: "f", To: "t", Cc: "c"}},
		{"Bcc: c@d\r\nSender: t@d\r\nReply-To: f@d\r\n", api.Card{}},

		{"Subject:\r\n", api.Card{}},
		{"Subject: A Bc\r\n", api.Card{Subject: "a bc"}},
		{"sUBJECT: a\r\nSubject: b\r\n", api.Card{Subject: "a"}},
		{"Subject:\r\nSubject: b\r\n", api.Card{}},
		{"Subject: Re: Re: A\r\n", api.Card{Subject: "a", Reply: true}},
		{"Subject: FWD: A\r\n", api.Card{Subject: "a", Reply: true}},
		{"Subject: A (Fwd)\r\n", api.Card{Subject: "a", Reply: true}},
		{"Subject: [fwd: A]\r\n", api.Card{Subject: "a", Reply: true}},
		{"Subject: Re:\r\n", api.Card{Reply: true}},
		{"Subject: Re: (fwd)\r\n", api.Card{Reply: true}},
		{"Subject: re\r\n", api.Card{Subject: "re"}},
		{"Subject: [List] A\r\n", api.Card{Subject: "a"}},
		{"Subject: [List]\r\n", api.Card{Subject: "[list]"}},
		{"Subject: =?utf-8?q?Re=3A_X=C3=89?=\r\n", api.Card{Subject: "x\u00c9", Reply: true}},
		{"Subject: Re:\r\n\t A\tb \r\n", api.Card{Subject: "a b", Reply: true}},

		{"Message-Id:\r\n", api.Card{}},
		{"Message-Id: x@y\r\n", api.Card{}},
		{"Message-Id: <x>\r\n", api.Card{}},
		{"mESSAGE-iD: <A@b> <c@d>\r\n", api.Card{Id: "A@b"}},
		{"Message-Id: <x> <c@d>\r\n", api.Card{Id: "c@d"}},
		{"Message-Id: <>\r\nMessage-Id: <c@d>\r\n", api.Card{}},
		{"Message-ID: <a@b>\r\nMessage-Id: <c@d>\r\n", api.Card{Id: "a@b"}},
		{"Message-Id: < a @ b >\r\n", api.Card{Id: "a@b"}},

		{"References: <a@b> <c@d>\r\n\t<A@b>\r\n", api.Card{Refs: []string{"a@b", "c@d", "A@b"}}},
		{"References: <a@b>\r\nIn-Reply-To: <c@d>\r\n", api.Card{Refs: []string{"a@b"}}},
		{"IN-REPLY-TO: <c@d> <e@f>\r\nREFERENCES: <a@b> <a@b>\r\n", api.Card{Refs: []string{"a@b", "a@b"}}},
		{"References:\r\nIn-Reply-To: <c@d> <e@f>\r\n", api.Card{Refs: []string{"c@d"}}},
		{"References: none\r\nReferences: <a@b>\r\nIn-Reply-To: <c@d>\r\n", api.Card{Refs: []string{"c@d"}}},
		{"References: <x>\r\nIn-Reply-To: yours <y> of <c@d>\r\n", api.Card{Refs: []string{"c@d"}}},
		{"In-Reply-To: <x>\r\nIn-Reply-To: <c@d>\r\n", api.Card{}},
		{"In-Reply-To:\r\n", api.Card{}},
		{"References: <x>\r\n", api.Card{}},
	} {
		look(t, c.raw, c.want)
	}
}

// P8.1: the message's own numbers, whatever they are; a Date that is no moment.
func TestCardNumbers(t *testing.T) {
	for _, n := range []int{least, -1, 0, 1, api.MaxNumber, most} {
		c := thread.Card(api.Mail{Seq: n, Uid: n ^ 1, Date: aMinute()})
		if c.Seq != n || c.Uid != n^1 {
			t.Errorf("Seq %d, Uid %d: %+v", n, n^1, c)
		}
	}
	for _, c := range []struct {
		date api.Moment
		want int
	}{
		{api.Moment{}, 0},
		{api.Moment{Year: 1971, Month: 2, Day: 29}, 0},
		{api.Moment{Year: 1971, Month: 2, Day: 1, Hour: 24}, 0},
		{api.Moment{Year: 1970, Month: 1, Day: 2, Zone: 60}, 82800},
		{api.Moment{Year: 1969, Month: 12, Day: 31}, -86400},
		{api.Moment{Year: 1, Month: 1, Day: 1}, -62135596800},
	} {
		got := thread.Card(api.Mail{Date: c.date, Raw: "Date: never\r\n"})
		if got.Arrival != c.want || got.Sent != c.want {
			t.Errorf("%+v: %+v", c.date, got)
		}
		got = thread.Card(api.Mail{Date: c.date, Raw: "Date: 1 Jan 1970 00:00:09 +0000\r\n"})
		if got.Arrival != c.want || got.Sent != 9 {
			t.Errorf("%+v, sent: %+v", c.date, got)
		}
	}
	body := strings.Repeat("x", 100000)
	if c := thread.Card(api.Mail{Raw: "Subject: a\r\n\r\n" + body}); c.Size != 14+len(body) {
		t.Errorf("Size: %d", c.Size)
	}
}

// P8.1: the fields that Fields tells, and no others; as many ids as Ids tells.
func TestCardBounds(t *testing.T) {
	last := "Date: 1 Jan 1970 00:00:05 +0000\r\n"
	look(t, strings.Repeat("X: y\r\n", api.MaxFields-1)+last, api.Card{Sent: 5})
	look(t, strings.Repeat("X: y\r\n", api.MaxFields)+last, api.Card{})
	var ids []string
	value := ""
	for i := range api.MaxIds + 1 {
		ids = append(ids, fmt.Sprintf("%d@x", i))
		value += fmt.Sprintf(" <%d@x>", i)
	}
	look(t, "References:"+value+end, api.Card{Refs: ids[1:]})
	look(t, "In-Reply-To:"+value+end, api.Card{Refs: ids[1:2]})
	look(t, "Message-Id:"+value+end, api.Card{Id: ids[1]})
	look(t, "From: "+strings.Repeat("a@b, ", 100000)+end, api.Card{From: "a"})
}

// part is a field's line and what it brings to a card.
type part struct {
	name, value string
	bring       func(*api.Card)
}

func parts() []part {
	nothing := func(*api.Card) {}
	return []part{
		{"Date", "2 Jan 1970 00:00:00 GMT", func(c *api.Card) { c.Sent = 86400 }},
		{"Date", "31 Dec 1969 00:00 Z", func(c *api.Card) { c.Sent = -86400 }},
		{"Date", "soon", nothing},
		{"From", "Ann <ANN@x>", func(c *api.Card) { c.From = "ann" }},
		{"From", ";", nothing},
		{"To", "you: a@b;, c@d", func(c *api.Card) { c.To = "you" }},
		{"To", "Z z@z", func(c *api.Card) { c.To = "zz" }},
		{"Cc", "", nothing},
		{"Cc", "c@c", func(c *api.Card) { c.Cc = "c" }},
		{"Subject", "Hello", func(c *api.Card) { c.Subject = "hello" }},
		{"Subject", "fw: Hello", func(c *api.Card) { c.Subject, c.Reply = "hello", true }},
		{"Subject", "", nothing},
		{"Message-Id", "<1@X>", func(c *api.Card) { c.Id = "1@X" }},
		{"Message-Id", "1@X", nothing},
		{"X-Other", "<9@X>", nothing},
	}
}

func inSomeCase(r *rand.Rand, s string) string {
	return oneOf(r, strings.ToUpper, strings.ToLower, func(s string) string { return s })(s)
}

// P8.1: fields of all kinds together, in any order and case, some of them twice.
func TestCardMixed(t *testing.T) {
	r := rand.New(rand.NewPCG(8, 1))
	all := parts()
	for range 20000 {
		var raw strings.Builder
		var want api.Card
		var had []string
		for range r.IntN(10) {
			p := oneOf(r, all...)
			raw.WriteString(inSomeCase(r, p.name) + ":" + oneOf(r, "", " ", end+"\t") + p.value + end)
			if !slices.Contains(had, p.name) {
				p.bring(&want)
				had = append(had, p.name)
			}
		}
		refs := oneOf(r, nil, []string{}, []string{"r@1"}, []string{"r@1", "r@2"})
		reply := oneOf(r, nil, []string{}, []string{"i@1"}, []string{"i@1", "i@2"})
		for _, f := range [][2]any{{"References", refs}, {"In-Reply-To", reply}} {
			if ids := f[1].([]string); ids != nil {
				raw.WriteString(inSomeCase(r, f[0].(string)) + ": <" + strings.Join(ids, "> <") + ">" + end)
			}
		}
		if len(refs) > 0 {
			want.Refs = refs
		} else if len(reply) > 0 {
			want.Refs = reply[:1]
		}
		raw.WriteString(oneOf(r, "", end+"Subject: body\r\nFrom: body@x\r\n"))
		look(t, raw.String(), want)
	}
}

// P8.1, W6: the card's list is its own.
func TestCardMemory(t *testing.T) {
	for _, raw := range []string{"References: <a@b> <c@d>\r\n", "In-Reply-To: <a@b> <c@d>\r\n"} {
		flags := spacious([]string{"a", "b"})
		m := api.Mail{Flags: flags, Raw: raw}
		before := fmt.Sprintf("%+v %q", m, whole(flags))
		a, b := thread.Card(m), thread.Card(m)
		lookAtRooms(t, "Card", m, a, b)
		for i := range whole(a.Refs) {
			whole(a.Refs)[i] = "scribbled"
		}
		if c := thread.Card(m); !reflect.DeepEqual(b, c) || b.Refs[0] != "a@b" {
			t.Errorf("%q: %+v, then %+v", raw, b, c)
		}
		if after := fmt.Sprintf("%+v %q", m, whole(flags)); after != before {
			t.Errorf("%q: what was handed in: %s, not %s", raw, after, before)
		}
	}
}

// P8.1, W1: any bytes have a card.
func TestCardAnyBytes(t *testing.T) {
	r := rand.New(rand.NewPCG(8, 2))
	pieces := []string{"Date", "From", "To", "Cc", "Subject", "Message-Id", "References", "In-Reply-To", ":", " ", end, "\r", "\n", "<", ">", "@", "a", "\"", "(", ")", "[", "]", "\\", "\x00", "\xff", "=?utf-8?q?", "?=", "Re:", "1 Jan 1970", ";", ","}
	for range 20000 {
		var raw strings.Builder
		for range r.IntN(30) {
			raw.WriteString(oneOf(r, pieces...))
		}
		m := api.Mail{Raw: raw.String()}
		if a, b := thread.Card(m), thread.Card(m); !reflect.DeepEqual(a, b) || a.Size != raw.Len() {
			t.Fatalf("%q: %+v, %+v", m.Raw, a, b)
		}
	}
	for _, s := range []string{"From: ", "References: ", "Subject: ", "Date: "} {
		for _, piece := range []string{"(", "<", "\"", "[", "<a@b>", "re:", "[", "=?", "1 "} {
			thread.Card(api.Mail{Raw: s + strings.Repeat(piece, 100000)})
		}
	}
}
