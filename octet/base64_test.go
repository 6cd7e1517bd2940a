package octet_test

import (
	"encoding/base64"
	"math/rand/v2"
	"strings"
	"testing"

	"postbag/api"
	"postbag/octet"
)

// P1.2, and P1.3 and P1.4 of what is right
func TestBase64(t *testing.T) {
	for s, want := range map[string]string{
		"":                         "",
		"f":                        "Zg==",
		"fo":                       "Zm8=",
		"foo":                      "Zm9v",
		"foob":                     "Zm9vYg==",
		"fooba":                    "Zm9vYmE=",
		"foobar":                   "Zm9vYmFy",
		"\x00":                     "AA==",
		"\x00\x00":                 "AAA=",
		"\xff":                     "/w==",
		"\xff\xfe":                 "//4=",
		"\xfb\xef\xbe":             "++++",
		"\xff\xff\xff":             "////",
		strings.Repeat("foo", 100): strings.Repeat("Zm9v", 100),
	} {
		if got := octet.Base64(s); got != want {
			t.Errorf("Base64(%q): %q, not %q", s, got, want)
		}
		if got, e := octet.FromBase64(want); got != s || e != api.OK {
			t.Errorf("FromBase64(%q): %q, %d", want, got, e)
		}
		if got := octet.Loose64(want); got != s {
			t.Errorf("Loose64(%q): %q", want, got)
		}
	}
}

// P1.2: what each letter is worth
func TestBase64Letters(t *testing.T) {
	const letters = "ABCDEFGHIJKLMNOPQRSTUVWXYZabcdefghijklmnopqrstuvwxyz0123456789+/"
	for worth := range 64 {
		if got := octet.Base64(string([]byte{byte(worth) << 2, 0, 0})); got != letters[worth:worth+1]+"AAA" {
			t.Errorf("the letter %d: %q", worth, got)
		}
	}
	s, e := octet.FromBase64(letters)
	if e != api.OK || octet.Base64(s) != letters || len(s) != 48 {
		t.Errorf("all letters: %q, %d", s, e)
	}
}

// P1.2 to P1.4, held against the library's own
func TestBase64OfAnyBytes(t *testing.T) {
	r := rand.New(rand.NewPCG(1, 2))
	for n := range 300 {
		b := make([]byte, n)
		for i := range b {
			b[i] = byte(r.Uint32())
		}
		s, want := string(b), base64.StdEncoding.EncodeToString(b)
		if got := octet.Base64(s); got != want {
			t.Fatalf("Base64(%q): %q, not %q", s, got, want)
		}
		if got, e := octet.FromBase64(want); got != s || e != api.OK {
			t.Fatalf("FromBase64(%q): %q, %d", want, got, e)
		}
		var lines strings.Builder
		for rest := want; rest != ""; {
			cut := min(len(rest), 1+r.IntN(76))
			lines.WriteString(rest[:cut] + "\r\n")
			rest = rest[cut:]
		}
		if got := octet.Loose64(lines.String()); got != s {
			t.Fatalf("Loose64(%q): %q", lines.String(), got)
		}
	}
}

// P1.3
func TestFromBase64Refuses(t *testing.T) {
	for _, s := range []string{
		"Zh==", "Zm9=", "Zm9vZh==", // bits left over
		"Z", "Zg", "Zm8", "Zm9vZg", // '=' missing
		"Zg=", "=", "==", "===", "====", "Z=", "Z==", "Z===", "Zg===", "Zm8==", "Zm9v=", "Zm9v==", "Zm9v====",
		"Zg==Zg==", "Zm8=Zm8=", "Zg==Zm9v", "Zg=g", "=Zg=", "Z=g=", // '=' in the middle
		"Zm9v\r\n", "\r\nZm9v", "Zm\r\n9v", "Zm9v\n", "Zg==\r\n", "Zg\r\n==", "\r\n",
		"Zm9-", "Zm9_", "Zm9,", "Zm9 ", " Zm9v", "Zm9v ", "Zm9\xff", "Zm9\x00", "\x00\x00\x00\x00",
	} {
		if got, e := octet.FromBase64(s); got != "" || e != api.ErrBase {
			t.Errorf("FromBase64(%q): %q, %d", s, got, e)
		}
	}
}

// P1.3: of every text there is one, or there is none
func TestFromBase64IsStrict(t *testing.T) {
	look := func(s string) {
		b, err := base64.StdEncoding.Strict().DecodeString(s)
		fits := err == nil && !strings.ContainsAny(s, "\r\n") // the library passes over line ends
		got, e := octet.FromBase64(s)
		if fits && (e != api.OK || got != string(b)) || !fits && (e != api.ErrBase || got != "") {
			t.Errorf("FromBase64(%q): %q, %d", s, got, e)
		}
	}
	everyText([]string{"A", "Q", "g", "8", "/", "=", "\n"}, 5, look)
	for _, whole := range []string{"Zm9vYg==", "Zm9vYmE=", "Zm9vYmFy"} {
		for at := range whole {
			for c := range 256 {
				look(whole[:at] + string([]byte{byte(c)}) + whole[at+1:])
				look(whole[:at] + string([]byte{byte(c)}) + whole[at:])
			}
			look(whole[:at] + whole[at+1:])
		}
	}
}

// P1.4
func TestLoose64(t *testing.T) {
	for s, want := range map[string]string{
		"":                    "",
		"Z":                   "",
		"Zg":                  "f",
		"Zm8":                 "fo",
		"Zm9v":                "foo",
		"Zm9vZ":               "foo",
		"Zm9vZg":              "foof",
		"Zh":                  "f", // bits left over are lost
		"Zm9":                 "fo",
		"Zm\r\n9v":            "foo",
		"Zm9v\r\nZm9v\r\n":    "foofoo",
		"Z-m-9-v":             "foo",
		" \tZ\x00m\xff9,v_":   "foo",
		"Zm8=Zm8=":            "fo",
		"Zm9v=Zm9v":           "foo",
		"=Zm9v":               "",
		"Z=m9v":               "",
		"Zg=g":                "f",
		"====":                "",
		"Z\r\ng\r\n=\r\n=Zm9": "f",
		"+/+/":                "\xfb\xff\xbf",
	} {
		if got := octet.Loose64(s); got != want {
			t.Errorf("Loose64(%q): %q, not %q", s, got, want)
		}
	}
}

// P1.4: which bytes count
func TestLoose64LeavesOutWhatIsNoLetter(t *testing.T) {
	const letters = "ABCDEFGHIJKLMNOPQRSTUVWXYZabcdefghijklmnopqrstuvwxyz0123456789+/"
	for c := range 256 {
		b := byte(c)
		want := "\x00\x00\x00"
		if worth := strings.IndexByte(letters, b); worth >= 0 {
			want = string([]byte{byte(worth >> 4), byte(worth << 4), 0})
		} else if b == '=' {
			want = ""
		}
		if got := octet.Loose64("A" + string([]byte{b}) + "AAA"); got != want {
			t.Errorf("Loose64 with byte %d: %q, not %q", c, got, want)
		}
	}
}
