package octet_test

import (
	"encoding/base64"
	"math/rand/v2"
	"strings"
	"testing"
	"unicode/utf16"
	"unicode/utf8"

	"postbag/api"
	"postbag/octet"
)

// longest is a name of 197 bytes: six levels of 32.
func longest() string {
	return strings.TrimSuffix(strings.Repeat(as(32)+"/", 6), "/")
}

// P1.8, P1.9
func TestNamesThereAndBack(t *testing.T) {
	for name, wire := range map[string]string{
		"INBOX":                      "INBOX",
		"INBOX/R&D":                  "INBOX/R&-D",
		"INBOX/inbox":                "INBOX/inbox",
		"x/inbox":                    "x/inbox",
		"inboxes":                    "inboxes",
		"inbo":                       "inbo",
		"é":                          "&AOk-",
		"ét":                         "&AOk-t",
		"éé":                         "&AOkA6Q-",
		"日本":                         "&ZeVnLA-",
		"日/本":                        "&ZeU-/&Zyw-",
		"日本語":                        "&ZeVnLIqe-",
		"a😀b":                        "a&2D3eAA-b",
		"😀é":                         "&2D3eAADp-",
		"é😀":                         "&AOnYPd4A-",
		"😀😀":                         "&2D3eANg93gA-",
		"\U00010000":                 "&2ADcAA-",
		"\U0010ffff":                 "&2,,f,w-",
		"\uffff":                     "&,,8-",
		"\ufffd":                     "&,,0-",
		"\ud7ff":                     "&1,8-",
		"\ue000":                     "&4AA-",
		"\u0080":                     "&AIA-",
		"&":                          "&-",
		"&&":                         "&-&-",
		"é&":                         "&AOk-&-",
		"&é":                         "&-&AOk-",
		"é&é":                        "&AOk-&-&AOk-",
		"é-é":                        "&AOk--&AOk-",
		"é é":                        "&AOk- &AOk-",
		"&AOk-":                      "&-AOk-",
		"-":                          "-",
		" ~":                         " ~",
		" !\"#$'()+,.:;<=>?@[\\]^_{": " !\"#$'()+,.:;<=>?@[\\]^_{",
		"a/b/c/d/e/f":                "a/b/c/d/e/f",
		as(32):                       as(32),
		longest():                    longest(),
		strings.Repeat("é", 16):      "&AOkA6QDpAOkA6QDpAOkA6QDpAOkA6QDpAOkA6QDpAOk-",
		strings.Repeat("&", 32):      strings.Repeat("&-", 32),
	} {
		if got, e := octet.Wire(name); got != wire || e != api.OK {
			t.Errorf("Wire(%q): %q, %d, not %q", name, got, e, wire)
		}
		if got, e := octet.FromWire(wire); got != name || e != api.OK {
			t.Errorf("FromWire(%q): %q, %d, not %q", wire, got, e, name)
		}
	}
}

// P1.8
func TestWireRefuses(t *testing.T) {
	for name, want := range map[string]api.Errno{
		longest() + "a":               api.ErrLong,
		strings.Repeat("\xff", 198):   api.ErrLong,
		strings.Repeat("/", 198):      api.ErrLong,
		as(100000):                    api.ErrLong,
		strings.Repeat("\xff", 197):   api.ErrUtf,
		"\xff":                        api.ErrUtf,
		"a\x80":                       api.ErrUtf,
		"\xc3":                        api.ErrUtf,
		"\xc3/a":                      api.ErrUtf,
		"\xe6\x97":                    api.ErrUtf,
		"\xc0\x80":                    api.ErrUtf, // too long forms
		"\xc1\xbf":                    api.ErrUtf,
		"\xe0\x80\xaf":                api.ErrUtf,
		"\xe0\x9f\xbf":                api.ErrUtf,
		"\xf0\x8f\xbf\xbf":            api.ErrUtf,
		"\xed\xa0\x80":                api.ErrUtf, // surrogates
		"\xed\xbf\xbf":                api.ErrUtf,
		"\xed\xa0\xbd\xed\xb8\x80":    api.ErrUtf,
		"\xf4\x90\x80\x80":            api.ErrUtf, // above the last character
		"inbox\xff":                   api.ErrUtf,
		"//%\xff":                     api.ErrUtf,
		"":                            api.ErrName,
		"/":                           api.ErrName,
		"/a":                          api.ErrName,
		"a/":                          api.ErrName,
		"a//b":                        api.ErrName,
		"a/b/c/d/e/f/g":               api.ErrName,
		"a/b/c/d/e/f/":                api.ErrName,
		as(33):                        api.ErrName,
		"a/" + as(33):                 api.ErrName,
		as(33) + "/a":                 api.ErrName,
		strings.Repeat("é", 16) + "a": api.ErrName,
		as(197):                       api.ErrName,
		"inbox":                       api.ErrName,
		"Inbox":                       api.ErrName,
		"INBOx/a":                     api.ErrName,
		"a%":                          api.ErrName,
		"a*b":                         api.ErrName,
		"a/%":                         api.ErrName,
		"a/b*/c":                      api.ErrName,
		"a\x00":                       api.ErrName,
		"\x1fa":                       api.ErrName,
		"a\x7f":                       api.ErrName,
		"é\n":                         api.ErrName,
	} {
		if got, e := octet.Wire(name); got != "" || e != want {
			t.Errorf("Wire(%q): %q, %d, not %d", name, got, e, want)
		}
	}
}

// P1.8: each byte by itself
func TestWireOfEachByte(t *testing.T) {
	for c := range 256 {
		s := "x" + string([]byte{byte(c)}) + "x"
		want := api.OK
		switch {
		case c < 32 || c == 127 || c == '%' || c == '*':
			want = api.ErrName
		case c > 127:
			want = api.ErrUtf
		}
		if _, e := octet.Wire(s); e != want {
			t.Errorf("Wire(%q): %d, not %d", s, e, want)
		}
		if want == api.ErrUtf {
			want = api.ErrName
		}
		if c == '&' {
			continue
		}
		if _, e := octet.FromWire(s); e != want {
			t.Errorf("FromWire(%q): %d, not %d", s, e, want)
		}
	}
}

// P1.9
func TestFromWireInbox(t *testing.T) {
	for s, want := range map[string]string{
		"inbox":         "INBOX",
		"iNbOx":         "INBOX",
		"Inbox/a":       "INBOX/a",
		"inbox/inbox":   "INBOX/inbox",
		"INBOX/a/&AOk-": "INBOX/a/é",
		"a/inbox":       "a/inbox",
		"inboxa":        "inboxa",
		"inbox&-":       "inbox&",
		"&AOk-inbox":    "éinbox",
		"inbox ":        "inbox ",
	} {
		if got, e := octet.FromWire(s); got != want || e != api.OK {
			t.Errorf("FromWire(%q): %q, %d, not %q", s, got, e, want)
		}
	}
}

// P1.9
func TestFromWireRefuses(t *testing.T) {
	for _, s := range []string{
		"&AGE-", "&AOkAYQ-", "&AGEA6Q-", "&AC8-", "&ACY-", "&ACA-", "&AH4-", "&AGkAbgBiAG8AeA-", // needs no run
		"&AOk-&AOk-", "&AOk-&AOk-a", "&2D0-&3gA-", "&2D3eAA-&AOk-", // side by side
		"&AOl-", "&AOm-", "&AOn-", "&ZeVnLB-", "&ZeVnLC-", "&2D3eAB-", "&2D3eAP-", // bits left over
		"&2D0-", "&3gA-", "&3gDYPQ-", "&2D0A6Q-", "&2D3YPQ-", "&2D3YPd4A-", "&2D3eAN4A-", "&AOnYPQ-", "&2AA-", "&2,8-", "&3,8-", // half a surrogate
		"&A-", "&AA-", "&AO-", "&AOkA-", "&AOkA6-", "&AOkA6QA-", // not two bytes each
		"&AOk", "&AOk/a", "&", "a&", "&AOk&AOk-", "&AOk&-", "&&-", "&a", "&-&", // no end, or a '&' within
		"&AO k-", "&AOk=-", "&AOkA6Q==-", "&,/8-", "&//8-", "&AO\r\nk-", "&AO_k-", "&\xc3\xa9-", // no letter
		"&AAAAAA-", "&AAA-", "&AAo-", "&AH8-", "a&AAk-", // a run that is right, of what no name has
		"é", "\x80", "\xff", "\x7f", "a\x7f", "a\x00", "\x1f", "\r\n", "&-\xff",
		"", "/", "/a", "a/", "a//b", "&AOk-//a", "a/b/c/d/e/f/g", "%", "*", "a/*", "inbox/", "inbox//a", "inbox/%", "INBOX/a/b/c/d/e/f",
		as(33), "a/" + as(33), "&AOkA6QDpAOkA6QDpAOkA6QDpAOkA6QDpAOkA6QDpAOkA6Q-", longest() + "a", longest() + "/a",
		as(api.MaxLine), strings.Repeat("&", api.MaxLine), strings.Repeat("&-", api.MaxLine/2), strings.Repeat("&A-", api.MaxLine/3),
	} {
		if got, e := octet.FromWire(s); got != "" || e != api.ErrName {
			t.Errorf("FromWire(%q): %q, %d", s, got, e)
		}
	}
	for _, n := range []int{api.MaxLine + 1, 100000} {
		for _, piece := range []string{"a", "&", "\xff"} {
			if got, e := octet.FromWire(strings.Repeat(piece, n)); got != "" || e != api.ErrLong {
				t.Errorf("FromWire of %d times %q: %q, %d", n, piece, got, e)
			}
		}
	}
}

// readStrictly reads modified UTF-7 as P1.8 writes it, by the library's means.
func readStrictly(s string) (string, bool) {
	letters := base64.NewEncoding("ABCDEFGHIJKLMNOPQRSTUVWXYZabcdefghijklmnopqrstuvwxyz0123456789+,").WithPadding(base64.NoPadding).Strict()
	var text strings.Builder
	ran := false // a run ended just here
	for s != "" {
		if s[0] != '&' {
			if s[0] < 32 || s[0] > 126 {
				return "", false
			}
			text.WriteByte(s[0])
			s, ran = s[1:], false
			continue
		}
		run, behind, ends := strings.Cut(s[1:], "-")
		if !ends || strings.ContainsAny(run, "\r\n") {
			return "", false
		}
		s = behind
		if run == "" {
			text.WriteByte('&')
			ran = false
			continue
		}
		b, err := letters.DecodeString(run)
		if err != nil || len(b)%2 != 0 || ran {
			return "", false
		}
		ran = true
		var units []uint16
		for i := 0; i < len(b); i += 2 {
			units = append(units, uint16(b[i])<<8|uint16(b[i+1]))
		}
		runes := utf16.Decode(units)
		for _, r := range runes {
			if r >= 32 && r <= 126 {
				return "", false
			}
		}
		if len(utf16.Encode(runes)) != len(units) || strings.Count(string(runes), "\ufffd") != count(units, 0xfffd) {
			return "", false
		}
		text.WriteString(string(runes))
	}
	return text.String(), true
}

func count(units []uint16, unit uint16) int {
	n := 0
	for _, u := range units {
		if u == unit {
			n++
		}
	}
	return n
}

// nameFits says what T2 says of names, by other means than the program's.
func nameFits(name string) bool {
	levels := strings.Split(name, "/")
	if len(levels) > 6 || !utf8.ValidString(name) || levels[0] != "INBOX" && strings.EqualFold(levels[0], "inbox") {
		return false
	}
	for _, l := range levels {
		if len(l) < 1 || len(l) > 32 || strings.ContainsAny(l, "%*\x7f") || strings.ContainsFunc(l, func(r rune) bool { return r < 32 }) {
			return false
		}
	}
	return true
}

func lookAtWire(t *testing.T, s string) {
	want, fits := readStrictly(s)
	if levels := strings.SplitN(want, "/", 2); strings.EqualFold(levels[0], "inbox") {
		want = "INBOX" + want[5:]
	}
	got, e := octet.FromWire(s)
	if fits && nameFits(want) {
		if got != want || e != api.OK {
			t.Errorf("FromWire(%q): %q, %d, not %q", s, got, e, want)
		}
	} else if got != "" || e != api.ErrName {
		t.Errorf("FromWire(%q): %q, %d", s, got, e)
	}
}

// P1.9, held against a strict reader
func TestFromWireOfManyTexts(t *testing.T) {
	everyText([]string{"&", "-", "A", "k", "O", "/", ",", "2"}, 6, func(s string) { lookAtWire(t, s) })
	everyText([]string{"A", "O", "k", "l", "2", "D", "3"}, 5, func(s string) { lookAtWire(t, "&"+s+"-") })
	for unit := range 0x10000 {
		for _, behind := range []string{"", "\xde\x00"} {
			b := base64.RawStdEncoding.EncodeToString([]byte(string([]byte{byte(unit >> 8), byte(unit)}) + behind))
			lookAtWire(t, "&"+strings.ReplaceAll(b, "/", ",")+"-")
		}
	}
	r := rand.New(rand.NewPCG(1, 9))
	pieces := []string{"&AOk-", "&AOn-", "&2D3eAA-", "&2D0-", "&", "-", "&-", "a", "/", "INBOX", "inbox", "/b", "é", "2D3eAA", "AOk", "A", "%", " "}
	for range 100000 {
		lookAtWire(t, randomText(r, pieces, r.IntN(8)))
	}
}

// P1.8, P1.9: what is written is read back, whatever the name
func TestWireOfManyNames(t *testing.T) {
	look := func(name string) {
		wire, e := octet.Wire(name)
		switch {
		case len(name) > 197:
			if e != api.ErrLong || wire != "" {
				t.Errorf("Wire(%q): %q, %d", name, wire, e)
			}
		case !utf8.ValidString(name):
			if e != api.ErrUtf || wire != "" {
				t.Errorf("Wire(%q): %q, %d", name, wire, e)
			}
		case !nameFits(name):
			if e != api.ErrName || wire != "" {
				t.Errorf("Wire(%q): %q, %d", name, wire, e)
			}
		default:
			text, fits := readStrictly(wire)
			back, f := octet.FromWire(wire)
			if e != api.OK || !fits || text != name || back != name || f != api.OK {
				t.Errorf("Wire(%q): %q, %d; read %q; FromWire: %q, %d", name, wire, e, text, back, f)
			}
		}
	}
	for r := rune(0); r <= 0x10ffff; r += 1 + r/2000 {
		look(string(r))
		look("x" + string(r) + "é")
	}
	everyText([]string{"a", "é", "😀", "&", "-", "/", "\xc3", "INBOX", "Inbox"}, 5, look)
	r := rand.New(rand.NewPCG(1, 8))
	for range 20000 {
		look(randomText(r, []string{"a", "é", "日", "😀", "&", "bcdef", "x", "y", "/", "/"}, r.IntN(60)))
	}
}
