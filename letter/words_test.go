package letter_test

import (
	"encoding/base64"
	"encoding/hex"
	"math/rand/v2"
	"regexp"
	"strings"
	"testing"

	"postbag/letter"
)

// runes is a text with each byte as the character of its number, so that an expression sees bytes.
func runes(s string) string {
	var out []rune
	for i := range len(s) {
		out = append(out, rune(s[i]))
	}
	return string(out)
}

// bytesOf undoes runes.
func bytesOf(s string) string {
	var out []byte
	for _, r := range s {
		out = append(out, byte(r))
	}
	return string(out)
}

var (
	formOfWord = regexp.MustCompile(`(?i)=\?(us-ascii|utf-8|iso-8859-1)\?([bq])\?([!->@-~]*)\?=`)
	formOfQ    = regexp.MustCompile(`_|=[0-9A-Fa-f]{2}`)
	noLetter   = regexp.MustCompile(`=(?s:.*)|[^A-Za-z0-9+/]`)
	onlyBlanks = regexp.MustCompile(`\A[ \t]*\z`)
)

func wantLoose64(s string) string {
	letters := noLetter.ReplaceAllString(s, "")
	if len(letters)%4 == 1 {
		letters = letters[:len(letters)-1]
	}
	out, err := base64.RawStdEncoding.DecodeString(letters)
	if err != nil {
		panic(err)
	}
	return string(out)
}

func wantQ(s string) string {
	return formOfQ.ReplaceAllStringFunc(s, func(q string) string {
		if q == "_" {
			return " "
		}
		out, _ := hex.DecodeString(q[1:])
		return string(out)
	})
}

// wantWords finds the encoded words by one expression.
func wantWords(value string) string {
	seen := runes(value)
	at, out := 0, ""
	for i, m := range formOfWord.FindAllStringSubmatchIndex(seen, -1) {
		if gap := seen[at:m[0]]; i == 0 || !onlyBlanks.MatchString(gap) {
			out += bytesOf(gap)
		}
		text := wantQ(seen[m[6]:m[7]])
		if strings.ToLower(seen[m[4]:m[5]]) == "b" {
			text = wantLoose64(seen[m[6]:m[7]])
		}
		if strings.ToLower(seen[m[2]:m[3]]) == "iso-8859-1" {
			text = runes(text)
		}
		out += text
		at = m[1]
	}
	return out + bytesOf(seen[at:])
}

func lookAtWords(t *testing.T, value string) {
	t.Helper()
	if got, want := letter.Words(value), wantWords(value); got != want {
		t.Errorf("Words(%.200q): %.200q, not %.200q", value, got, want)
	}
}

// P5.5
func TestWords(t *testing.T) {
	for _, c := range []struct{ value, want string }{
		{"", ""},
		{"a  b\t\r\n", "a  b\t\r\n"},
		{"=?UTF-8?q?a_=C3=A9?= \t=?iso-8859-1?B?6Q==?= =?x?q?b?=", "a éé =?x?q?b?="},
		// the text
		{"=?utf-8?Q??=", ""},
		{"=?utf-8?B??=", ""},
		{"a=?utf-8?Q??=b", "ab"},
		{"=?utf-8?q?a b?=", "=?utf-8?q?a b?="},
		{"=?utf-8?q?a\tb?=", "=?utf-8?q?a\tb?="},
		{"=?utf-8?q?a\x7fb?=", "=?utf-8?q?a\x7fb?="},
		{"=?utf-8?q?\xe9?=", "=?utf-8?q?\xe9?="},
		{"=?utf-8?q?a?b?=", "=?utf-8?q?a?b?="},
		{"=?utf-8?q???=", "=?utf-8?q???="},
		{"=?utf-8?q?!~?=", "!~"},
		// Q
		{"=?utf-8?q?_a__b_?=", " a  b "},
		{"=?utf-8?q?=41=4a=4A=00=fF?=", "AJJ\x00\xff"},
		{"=?utf-8?q?=?=", "="},
		{"=?utf-8?q?=4?=", "=4"},
		{"=?utf-8?q?=4g=g4==41=_=4_1?=", "=4g=g4=A= =4 1"},
		{"=?utf-8?q?=3D41=5F?=", "=41_"},
		{"=?utf-8?q?=0D=0A?=", "\r\n"},
		// B
		{"=?utf-8?b?Zm9v?=", "foo"},
		{"=?utf-8?b?Zg==?=", "f"},
		{"=?utf-8?b?Zg?=", "f"},
		{"=?utf-8?b?Z?=", ""},
		{"=?utf-8?b?Z-m-9-v=Zm9v?=", "foo"},
		{"=?utf-8?b?_?=", ""},
		{"=?utf-8?b?=41?=", ""},
		// charsets
		{"=?US-ASCII?Q?=E9?=", "\xe9"},
		{"=?us-ascii?b?6Q?=", "\xe9"},
		{"=?Utf-8?Q?=E9?=", "\xe9"},
		{"=?uTF-8?q?=C3=A9=ff?=", "é\xff"},
		{"=?iso-8859-1?q?=E9=7f=80=FF?=", "é\x7f\u0080ÿ"},
		{"=?ISO-8859-1?B?6f8=?=", "éÿ"},
		{"=?iso-8859-1?q?=C3=A9?=", "Ã©"},
		{"=?iso-8859-2?q?a?=", "=?iso-8859-2?q?a?="},
		{"=?iso-8859-15?q?a?=", "=?iso-8859-15?q?a?="},
		{"=?utf8?q?a?=", "=?utf8?q?a?="},
		{"=?ascii?q?a?=", "=?ascii?q?a?="},
		{"=??q?a?=", "=??q?a?="},
		{"=?utf-8*en?q?a?=", "=?utf-8*en?q?a?="},
		{"=? utf-8?q?a?=", "=? utf-8?q?a?="},
		// the coding
		{"=?utf-8?x?a?=", "=?utf-8?x?a?="},
		{"=?utf-8?qq?a?=", "=?utf-8?qq?a?="},
		{"=?utf-8??a?=", "=?utf-8??a?="},
		{"=?utf-8?a?=", "=?utf-8?a?="},
		// ends
		{"=", "="},
		{"=?", "=?"},
		{"=?utf-8", "=?utf-8"},
		{"=?utf-8?", "=?utf-8?"},
		{"=?utf-8?q", "=?utf-8?q"},
		{"=?utf-8?q?", "=?utf-8?q?"},
		{"=?utf-8?q?a", "=?utf-8?q?a"},
		{"=?utf-8?q?a?", "=?utf-8?q?a?"},
		{"=?utf-8?q?a? =", "=?utf-8?q?a? ="},
		{"=?utf-8?q?a?\r\n=", "=?utf-8?q?a?\r\n="},
		{"=?utf-8?q?a=?utf-8?q?b?=", "=?utf-8?q?ab"},
		{"=?=?utf-8?q?a?=", "=?a"},
		{"=?utf-8?=?utf-8?q?a?=", "=?utf-8?a"},
		{"?=?utf-8?q?a?=", "?a"},
		{"==?utf-8?q?a?==", "=a="},
		// blanks
		{" =?us-ascii?q?a?= b", " a b"},
		{"a \t=?us-ascii?q?a?=\t b", "a \ta\t b"},
		{"=?us-ascii?q?a?= ", "a "},
		{"=?us-ascii?q?a?=", "a"},
		{"=?utf-8?q?a?==?utf-8?q?b?=", "ab"},
		{"=?utf-8?q?a?= =?utf-8?q?b?=\t =?utf-8?b?Yw?= d", "abc d"},
		{"=?utf-8?q?a?=\r\n =?utf-8?q?b?=", "a\r\n b"},
		{"=?utf-8?q?a?= . =?utf-8?q?b?=", "a . b"},
		{"=?utf-8?q?a?= =?x?q?b?= =?utf-8?q?c?=", "a =?x?q?b?= c"},
		{"=?utf-8?q??= =?utf-8?q??= x", " x"},
		{"=?utf-8?q?a?= =?utf-8?q?b?", "a =?utf-8?q?b?"},
		{"=?utf-8?q?a?=?utf-8?q?b?=", "a?utf-8?q?b?="},
		{"=?utf-8?q?a?==", "a="},
		{"=?utf-8?q?a_?= =?utf-8?q?_b?=", "a  b"},
		// what is read is not read again
		{"=?utf-8?q?=3D=3Futf-8=3Fq=3Fa=3F=3D?=", "=?utf-8?q?a?="},
		{"=?utf-8?q?=3D?=?utf-8?q?a?=", "=?utf-8?q?a?="},
		{"=?utf-8?q?a?= =20=?utf-8?q?b?=", "a =20b"},
	} {
		if got := letter.Words(c.value); got != c.want {
			t.Errorf("Words(%q): %q, not %q", c.value, got, c.want)
		}
		lookAtWords(t, c.value)
	}
}

// cases is a text in each mix of small and large letters.
func cases(s string) []string {
	all := []string{""}
	for i := range len(s) {
		var next []string
		for _, a := range all {
			next = append(next, a+strings.ToLower(s[i:i+1]))
			if up := strings.ToUpper(s[i : i+1]); up != strings.ToLower(s[i:i+1]) {
				next = append(next, a+up)
			}
		}
		all = next
	}
	return all
}

// P5.5: each charset and each coding in each case.
func TestWordsInEachCase(t *testing.T) {
	for charset, want := range map[string]string{"us-ascii": "\xe9", "utf-8": "\xe9", "iso-8859-1": "é"} {
		for _, name := range cases(charset) {
			for coding, text := range map[string]string{"q": "=E9", "Q": "=e9", "b": "6Q==", "B": "6Q=="} {
				if got := letter.Words("=?" + name + "?" + coding + "?" + text + "?="); got != want {
					t.Errorf("Words of %q, %q: %q", name, coding, got)
				}
			}
		}
	}
}

// P5.5: each byte of each charset, as itself and behind =, and in each place of a word.
func TestWordsOfEachByte(t *testing.T) {
	for c := range 256 {
		b := string([]byte{byte(c)})
		for _, charset := range []string{"us-ascii", "utf-8", "iso-8859-1"} {
			want := b
			if charset == "iso-8859-1" {
				want = string(rune(c))
			}
			coded := "=?" + charset + "?q?=" + hex.EncodeToString([]byte(b)) + "?="
			if got := letter.Words(coded); got != want {
				t.Errorf("Words(%q): %q, not %q", coded, got, want)
			}
			coded = "=?" + charset + "?B?" + base64.StdEncoding.EncodeToString([]byte(b)) + "?="
			if got := letter.Words(coded); got != want {
				t.Errorf("Words(%q): %q, not %q", coded, got, want)
			}
			lookAtWords(t, "=?"+charset+"?q?a"+b+"c?=")
			lookAtWords(t, "=?"+charset+"?b?Zm"+b+"9v?=")
		}
		for _, value := range []string{b + "=?utf-8?q?a?=", "=?utf-8?q?a?=" + b, "=?utf-8?q?a?=" + b + "=?utf-8?q?b?=", "=?utf-8?q?a?= " + b + "\t=?utf-8?q?b?=", "=" + b + "?utf-8?q?a?=", "=?" + b + "utf-8?q?a?=", "=?utf-8" + b + "?q?a?=", "=?utf-8?" + b + "?a?=", "=?utf-8?q" + b + "?a?=", "=?utf-8?q?a?" + b + "=", "=?utf-8?q?=4" + b + "?=", "=?utf-8?q?=" + b + "4?="} {
			lookAtWords(t, value)
		}
	}
}

// randomWords is a text with encoded words, whole ones and others.
func randomWords(r *rand.Rand) string {
	return pieced(r, 14, "=?", "?=", "?", "=", "utf-8", "ISO-8859-1", "us-ascii", "x", "q", "B", "?q?", "?b?", "a", "_", "=E9", "=c3=a9", "Zm9v", "6Q==", " ", "\t", "  ", "\r\n", "\xff", "é", "=?utf-8?q?a?=", "=?utf-8?q?a?= ", "=?iso-8859-1?B?6Q?=", "=?iso-8859-1?q?=e9_?=", "=?us-ascii?q?")
}

// P5.5: against a reader of another make.
func TestWordsOfManyKinds(t *testing.T) {
	r := rand.New(rand.NewPCG(5, 5))
	for range 60000 {
		lookAtWords(t, randomWords(r))
	}
}

// P5.12: without =? a text is its own.
func TestWordsOfPlainTexts(t *testing.T) {
	r := rand.New(rand.NewPCG(5, 12))
	for range 30000 {
		plain := strings.ReplaceAll(randomWords(r), "=?", "=")
		for strings.Contains(plain, "=?") {
			plain = strings.ReplaceAll(plain, "=?", "=")
		}
		if got := letter.Words(plain); got != plain {
			t.Errorf("Words(%q): %q", plain, got)
		}
	}
}

// P5.13: long texts, and words that begin over and over again.
func TestLongWords(t *testing.T) {
	const n = 200000
	long := strings.Repeat("a", n)
	for _, c := range []struct{ value, want string }{
		{"=?utf-8?q?" + long + "?=", long},
		{"=?utf-8?q?" + strings.Repeat("=61", n) + "?=", long},
		{"=?utf-8?q?" + strings.Repeat("=", n) + "?=", strings.Repeat("=", n)},
		{"=?utf-8?b?" + strings.Repeat("Zm9v", n) + "?=", strings.Repeat("foo", n)},
		{strings.Repeat("=?utf-8?q?a?=", n), long},
		{strings.Repeat("=?utf-8?q?a?= \t ", n), long + " \t "},
		{strings.Repeat("=?utf-8?q?", n), strings.Repeat("=?utf-8?q?", n)},
		{strings.Repeat("=?", n), strings.Repeat("=?", n)},
		{strings.Repeat("=?utf-8?q?a", n), strings.Repeat("=?utf-8?q?a", n)},
		{"=?" + long, "=?" + long},
		{"=?utf-8?q?" + long, "=?utf-8?q?" + long},
		{"=?utf-8?q?a?=" + strings.Repeat(" ", n), "a" + strings.Repeat(" ", n)},
		{strings.Repeat("=?utf-8?q?a?=  b", n), strings.Repeat("a  b", n)},
		{strings.Repeat("?", n), strings.Repeat("?", n)},
	} {
		if got := letter.Words(c.value); got != c.want {
			t.Errorf("Words(%.60q..), %d bytes: %.60q.., %d bytes", c.value, len(c.value), got, len(got))
		}
	}
}
