package play_test

import (
	"fmt"
	"math/rand/v2"
	"regexp"
	"slices"
	"strings"
	"testing"

	"postbag/api"
	"postbag/play"
)

// eachLine are the lines that there are, with their steps.
func eachLine() map[string]api.Step {
	return map[string]api.Step{
		`open 1`:                  open(1),
		`bytes 2 "a b"`:           bytes(2, "a b"),
		`line 3 "a NOOP"`:         bytes(3, "a NOOP\r\n"),
		`cut 4`:                   cut(4),
		`plan`:                    plan(),
		`plan 3 0 -1`:             plan(stopAt(3, 0, -1)),
		`plan 3 0 -1 1 1 1`:       plan(stopAt(3, 0, -1), stopAt(1, 1, 1)),
		`start`:                   start(),
		`check`:                   check(),
		`bytes 0 ""`:              bytes(0, ""),
		`line -7 ""`:              bytes(-7, "\r\n"),
		`line 1 "x\r\n"`:          bytes(1, "x\r\n\r\n"),
		`bytes 1 "x\r\n"`:         bytes(1, "x\r\n"),
		`open 4294967295`:         open(4294967295),
		`cut -4294967295`:         cut(-4294967295),
		`plan 0 0 0`:              plan(stopAt(0, 0, 0)),
		`plan 99 4294967295 -900`: plan(stopAt(99, 4294967295, -900)),
	}
}

// wordsOf cuts a line whose quoted words have no quotes within.
func wordsOf(line string) []string {
	var out []string
	for i, piece := range strings.Split(line, `"`) {
		if i%2 == 1 {
			out = append(out, `"`+piece+`"`)
		} else {
			out = append(out, strings.Fields(piece)...)
		}
	}
	return out
}

func isDigit(c byte) bool { return '0' <= c && c <= '9' }

func joined(lists ...[]string) string { return strings.Join(slices.Concat(lists...), " ") }

// P20.1: the line of the rules.
func TestRules(t *testing.T) {
	wantParsed(t, head, parsed{rules: someRules()})
	wantParsed(t, strings.TrimSuffix(head, "\n"), parsed{rules: someRules()})
	wantParsed(t, `rules user "a\"b" pass "" quota -1 validity 2 uid -3 number 4 every -5 now 6 -7 8 -9 10 -11 12`, parsed{rules: api.Rules{
		User: `a"b`, Quota: -1, Validity: 2, Uid: -3, Number: 4, Every: -5, Now: api.Moment{Year: 6, Month: -7, Day: 8, Hour: -9, Minute: 10, Second: -11, Zone: 12},
	}})
	wantParsed(t, `rules user "" pass "\x00" quota 0 validity 0 uid 0 number 0 every 0 now 0 0 0 0 0 0 0`, parsed{rules: api.Rules{Pass: "\x00"}})
}

// P20.1: of the rules every word left out, one too many, one of another sort or in large letters; of the first line nothing but rules.
func TestNoRules(t *testing.T) {
	words := wordsOf(strings.TrimSpace(head))
	if len(words) != 23 {
		t.Fatal(words)
	}
	none := func(lists ...[]string) {
		t.Helper()
		wantParsed(t, joined(lists...), refusal(api.ErrScript, 1))
		wantParsed(t, "\n# x\n"+joined(lists...)+"\nopen 1\nopen\n", refusal(api.ErrScript, 3))
	}
	for i, w := range words {
		none(words[:i], words[i+1:])
		for _, other := range []string{"user", "now", "x", "Rules", "0", "1", "-2", `"u"`, `""`, "!", "#"} {
			if i == 0 && other == "#" { // that is a comment
				continue
			}
			none(words[:i], []string{other}, words[i:])
			sorts := []string{w, other}
			for k, s := range sorts {
				if strings.Trim(s, "-0123456789") == "" {
					sorts[k] = "N"
				} else if s[0] == '"' {
					sorts[k] = "Q"
				}
			}
			if sorts[0] != sorts[1] {
				none(words[:i], []string{other}, words[i+1:])
			}
		}
		if strings.ToUpper(w) != w && w[0] != '"' {
			none(words[:i], []string{strings.ToUpper(w)}, words[i+1:])
			none(words[:i], []string{strings.ToUpper(w[:1]) + w[1:]}, words[i+1:])
			none(words[:i], []string{w + "s"}, words[i+1:])
			none(words[:i], []string{`"` + w + `"`}, words[i+1:])
		}
		if i > 0 {
			none(words[:i])
		}
	}
	for _, more := range []string{"x", "0", `""`, "now", "!"} {
		none(words, []string{more})
	}
	for line := range eachLine() {
		none([]string{line})
	}
	wantParsed(t, head+head, refusal(api.ErrScript, 2))
}

// P20.1: each line's step; a quoted word of `line` gets CR LF.
func TestSteps(t *testing.T) {
	script := ""
	var all []api.Step
	for line, x := range eachLine() {
		wantSteps(t, line, x)
		wantSteps(t, line+"\n", x)
		wantSteps(t, "start\n"+line+"\ncheck", start(), x, check())
		script += line + "\n"
		all = append(all, x)
	}
	wantSteps(t, script, all...)
}

// P20.1: of every line every word left out, one too many, one of another sort, in large letters or with more letters.
func TestNoSteps(t *testing.T) {
	there := eachLine()
	none := func(lists ...[]string) {
		t.Helper()
		line := joined(lists...)
		if _, is := there[line]; !is && line != "" && line != "plan 1 1 1" {
			wantNone(t, line, "  "+line+"\nstart")
		}
	}
	for line := range there {
		words := wordsOf(line)
		isPlan := words[0] == "plan"
		for i, w := range words {
			none(words[:i], words[i+1:])
			for _, other := range []string{"x", "open", "0", "-1", `""`, `"x"`, "!", "-", `"`, "Open", "rules"} {
				isNumber := other == "0" || other == "-1"
				if !isPlan || !isNumber {
					none(words[:i], []string{other}, words[i:])
				}
				if isNumber != (strings.Trim(w, "-0123456789") == "") && (other[0] == '"') != (w[0] == '"') {
					none(words[:i], []string{other}, words[i+1:])
				}
			}
			if i == 0 {
				for _, other := range []string{strings.ToUpper(w), strings.ToUpper(w[:1]) + w[1:], w[:len(w)-1], w + "s", w + "1", w + "-1", `"` + w + `"`, w[:1] + " " + w[1:], "rules", "to", "closed", "store", "stop"} {
					none([]string{other}, words[1:])
				}
			}
		}
		for _, more := range []string{"x", `""`, "!", "-", "open 1"} {
			none(words, []string{more})
		}
		if !isPlan {
			none(words, []string{"0"})
		}
	}
	wantNone(t, "open x", `open "1"`, "open -", `line 1 x`, `line 1 2`, `line "x" 1`, `line x "x"`, `bytes 1`, `bytes "x"`, `cut`, `start 0`, `check "x"`, `plan x`, `plan 1 2 x`, `plan 1 2 "3"`, `"plan"`, `1`, `-1 2`, "opens 1", "pla n")
}

// P20.1: which numbers there are.
func TestNumbers(t *testing.T) {
	for text, n := range map[string]int{
		"0": 0, "1": 1, "9": 9, "10": 10, "100": 100, "1234567890": 1234567890, "4294967294": 4294967294, "4294967295": 4294967295,
		"-1": -1, "-9": -9, "-10": -10, "-4294967294": -4294967294, "-4294967295": -4294967295,
	} {
		wantSteps(t, "open "+text, open(n))
		wantSteps(t, "bytes "+text+` "x"`, bytes(n, "x"))
		wantSteps(t, "plan 1 "+text+" 1", plan(stopAt(1, n, 1)))
		wantParsed(t, strings.Replace(head, "quota 100000", "quota "+text, 1), parsed{rules: func() api.Rules { r := someRules(); r.Quota = n; return r }()})
	}
	for _, text := range []string{
		"00", "01", "007", "-", "-0", "-00", "-01", "--1", "+1", "+0", "1-", "1-2", "- 1", "1_0", "0x1", "0b1", "0o7", "1e1", "1.0", ".1", "1,0", "1a", "a1", "1x", "½", "١", "4294967296", "-4294967296", "4294967300", "10000000000",
		"9223372036854775807", "9223372036854775808", "18446744073709551616", "18446744073709551617", "-18446744073709551617", "99999999999999999999999999999999", strings.Repeat("9", 5000), "-" + strings.Repeat("1", 5000), strings.Repeat("0", 5000) + "1",
	} {
		wantNone(t, "open "+text, "bytes "+text+` "x"`, "plan 1 "+text+" 1", "cut "+text+" # x")
		wantParsed(t, strings.Replace(head, "quota 100000", "quota "+text, 1), refusal(api.ErrScript, 1))
	}
}

// P20.1: each of the 256 bytes in a quoted word: as it is, behind a backslash, and as a number.
func TestQuotedBytes(t *testing.T) {
	for c := range 256 {
		b := string([]byte{byte(c)})
		as := `bytes 1 "a` + b + `z"`
		if c >= 32 && c != '"' && c != '\\' && c != 127 {
			wantSteps(t, as, bytes(1, "a"+b+"z"))
			wantSteps(t, "line 1 \""+b+"\"", bytes(1, b+"\r\n"))
		} else {
			wantNone(t, as, "line 1 \""+b+"\"")
		}
		behind := `bytes 1 "a\` + b + `z"`
		switch b {
		case `"`, `\`:
			wantSteps(t, behind, bytes(1, "a"+b+"z"))
		case "r":
			wantSteps(t, behind, bytes(1, "a\rz"))
		case "n":
			wantSteps(t, behind, bytes(1, "a\nz"))
		default:
			wantNone(t, behind)
		}
		for _, form := range []string{"%02x", "%02X", "%x"} {
			digits := fmt.Sprintf(form, c)
			line := `line 1 "a\x` + digits + `z"`
			if len(digits) == 2 {
				wantSteps(t, line, bytes(1, "a"+b+"z\r\n"))
			} else {
				wantNone(t, line)
			}
			wantParsed(t, strings.Replace(head, `"p"`, `"\x`+fmt.Sprintf("%02x", c)+`"`, 1), parsed{rules: func() api.Rules { r := someRules(); r.Pass = b; return r }()})
		}
		for _, pair := range []string{"0" + b, b + "0"} {
			isDigit := strings.Contains("0123456789abcdefABCDEF", b)
			if got := parse(head + `bytes 1 "\x` + pair + `"`); (got.code == api.OK) != isDigit {
				t.Errorf("P20.1: \\x%q: %+v", pair, got)
			}
		}
	}
}

// P20.1: which texts in quotes there are.
func TestQuoted(t *testing.T) {
	for text, want := range map[string]string{
		`""`: "", `"a"`: "a", `" "`: " ", `"  a  b  "`: "  a  b  ", `"#"`: "#", `" # x"`: " # x", `"open 1"`: "open 1",
		`"\"\\\r\n\x41"`: "\"\\\r\nA", `"\xaF\xFa\xAf\xfA"`: "\xaf\xfa\xaf\xfa", `"\x0d\x0a"`: "\r\n", `"\x22\x5c"`: `"\`, `"\\x41"`: `\x41`, `"\\\\n"`: `\\n`, `"\\\n"`: "\\\n", `"\x5cn"`: `\n`,
		`"\""`: `"`, `"\\"`: `\`, `"é日"`: "é日", "\"\xff\xfe\x80\"": "\xff\xfe\x80", "\"~!\"": "~!", `"\x414"`: "A4", `"\x00"`: "\x00",
	} {
		wantSteps(t, "bytes 1 "+text, bytes(1, want))
		wantSteps(t, "line 1 "+text, bytes(1, want+"\r\n"))
	}
	for _, text := range []string{
		`"`, `"a`, `a"`, `"\"`, `"\\\"`, `"\`, `"a\`, `"\x`, `"\x4`, `"\x41`, `"\x"`, `"\x4"`, `"\xg0"`, `"\x0g"`, `"\x 1"`, `"\x+1"`, `"\x-1"`, `"\x_1"`, `"\X41"`, `"\x4\x41"`, `"\q"`, `"\R"`, `"\N"`, `"\t"`, `"\0"`, `"\101"`, `"\u0041"`, `"\'"`, `"\ "`, `"\#"`,
		"\"a\tb\"", "\"a\rb\"", "\"a\x00b\"", "\"\x1f\"", "\"\x7f\"", "\"a\nb\"", "\"a\\\nb\"", `'a'`, "`a`", `"a"b"`, `"a" "b"`, `""""`, `"a""b"`, `"a"b`, `a"b"`, `"a"#`, `"a"1`, `"""`,
	} {
		wantNone(t, "bytes 1 "+text, "line 1 "+text)
	}
}

// P20.1: blanks of three kinds, as many as one likes, at a line's ends too; nothing else stands between words.
func TestBlanks(t *testing.T) {
	r := rand.New(rand.NewPCG(20, 11))
	gap := func(least int) string {
		out := ""
		for range least + r.IntN(3) {
			out += oneOf(r, " ", "\t", "\r")
		}
		return out
	}
	for line, x := range eachLine() {
		words := wordsOf(line)
		for _, b := range []string{" ", "\t", "\r", "  ", " \t\r", "\r\r"} {
			wantSteps(t, strings.Join(words, b), x)
			wantSteps(t, b+line, x)
			wantSteps(t, line+b, x)
			wantSteps(t, b+line+b+"\n"+b+"\n"+b+line+b+"\n"+b, x, x)
		}
		for range 20 {
			out := gap(0)
			for i, w := range words {
				out += w + gap(min(1, len(words)-1-i))
			}
			wantSteps(t, out, x)
		}
		for c := range 256 {
			b := string([]byte{byte(c)})
			if strings.Contains(" \t\r\n", b) {
				continue
			}
			if b != "#" {
				wantNone(t, b+" "+line, line+" "+b)
			}
			if !isDigit(line[len(line)-1]) || !isDigit(b[0]) { // else it is another number
				wantNone(t, line+b)
			}
			if len(words) > 1 {
				wantNone(t, strings.Join(words, b))
			}
		}
	}
	for _, line := range []string{"open1", "cut-1", `line 1"x"`, `line1 "x"`, `line"x"`, `bytes 1"x"`, "plan1 2 3", "plan 1 2-3", "start#", "open 1#", "open 1# x", `bytes 1 "x"#`, "plan#", "startcheck"} {
		wantNone(t, line)
	}
	wantParsed(t, strings.ReplaceAll(head, " ", "\t \r"), parsed{rules: someRules()})
	wantParsed(t, strings.Replace(head, `"u" pass`, `"u"pass`, 1), refusal(api.ErrScript, 1))
}

// P20.1: a comment begins where a word could, and has any bytes.
func TestComments(t *testing.T) {
	any := ""
	for c := range 256 {
		if c != '\n' {
			any += string([]byte{byte(c)})
		}
	}
	for _, c := range []string{"#", "# x", "##", "#open 1", "# \"", "#" + any, "#\\", "#\r"} {
		wantSteps(t, c+"\nstart\n"+c, start())
		wantSteps(t, " \t\r"+c+"\nstart\n"+c+"\n", start())
		for line, x := range eachLine() {
			wantSteps(t, line+" "+c, x)
			wantSteps(t, line+"\t"+c+"\n"+line+"\r"+c+"\n", x, x)
			wantNone(t, line+c, "!"+c)
			if words := wordsOf(line); len(words) > 1 && words[0] != "plan" {
				wantNone(t, words[0]+" "+c+" "+strings.Join(words[1:], " "))
			}
		}
		wantParsed(t, c+"\n"+strings.TrimSpace(head)+" "+c+"\n"+c+"\nstart", parsed{rules: someRules(), steps: []api.Step{start()}})
		wantParsed(t, c, refusal(api.ErrScript, 0))
	}
	wantSteps(t, `bytes 1 "a # b" # c`, bytes(1, "a # b"))
	wantSteps(t, "plan 1 2 3 # 4", plan(stopAt(1, 2, 3)))
	wantSteps(t, "plan 1 2 3 #4 5 6", plan(stopAt(1, 2, 3)))
	wantNone(t, `bytes 1 "a # b`, "plan 1 2 # 3", "plan 1 2 3#")
}

// P20.1: lines end with the byte 10 or the text's end; those without words count for the line's number alone.
func TestLineNumbers(t *testing.T) {
	for _, text := range []string{"", "\n", "\n\n\n", " ", "\r\n", "\t\n \r", "# nothing", "# nothing\n\n#\n", "\n#"} {
		wantParsed(t, text, refusal(api.ErrScript, 0))
		wantSteps(t, text)
		wantSteps(t, text+"\nopen 1\n"+text, open(1))
		at := 2 + strings.Count(text, "\n")
		wantParsed(t, text+"\n"+head+"open", refusal(api.ErrScript, at+1))
		wantParsed(t, text+"\nopen 1\n"+head, refusal(api.ErrScript, at))
		wantParsed(t, head+text+"\n!\n", refusal(api.ErrScript, at+1))
		wantParsed(t, head+text+"\nstart # x\n"+text+"\nstop", refusal(api.ErrScript, at+1+at))
	}
	for _, c := range []string{"$", "x", "\x00", `"`, "1", "-", "\v", "\f", "\u00a0", "\u2028", "\xef\xbb\xbf"} {
		wantParsed(t, c, refusal(api.ErrScript, 1))
		wantParsed(t, "\n# x\n"+c+"\n"+head, refusal(api.ErrScript, 3))
		wantParsed(t, c+head, refusal(api.ErrScript, 1))
	}
	wantSteps(t, "start\r\ncheck\r\n", start(), check())
	wantNone(t, "start\rcheck", "start check", "open\n1")
}

// P20.1: of several lines that offend the first one is told.
func TestFirstOfSeveral(t *testing.T) {
	for _, bad := range []string{"x", "open", "open 1 2", "!", `bytes 1 "`, "plan 1"} {
		wantParsed(t, head+"start\n"+bad+"\nx\n\nopen 01", refusal(api.ErrScript, 3))
		wantParsed(t, head+bad+"\nstart\n"+bad, refusal(api.ErrScript, 2))
		wantParsed(t, bad+"\n"+head+bad, refusal(api.ErrScript, 1))
		many := strings.Repeat("start\n", api.MaxSteps)
		wantParsed(t, head+many+bad+"\nstart\n", refusal(api.ErrScript, 402))
		wantParsed(t, head+many+"start\n"+bad, refusal(api.ErrLong, 402))
		wantParsed(t, head+bad+"\n"+many+"start\n", refusal(api.ErrScript, 2))
		wantParsed(t, "\n"+bad+"\n"+many+many, refusal(api.ErrScript, 2))
	}
}

// P20.1: MaxSteps steps and one more, however they are written.
func TestMaxSteps(t *testing.T) {
	for line, x := range eachLine() {
		for _, end := range []string{"\n", " # x\n", "\n\n#\n"} {
			script := head + strings.Repeat(line+end, api.MaxSteps)
			wantParsed(t, script, parsed{rules: someRules(), steps: slices.Repeat([]api.Step{x}, api.MaxSteps)})
			at := 1 + strings.Count(script, "\n")
			wantParsed(t, script+line, refusal(api.ErrLong, at))
			wantParsed(t, script+line+end+line+end, refusal(api.ErrLong, at))
			wantParsed(t, script+"\n\n # x\n"+line+"\nx", refusal(api.ErrLong, at+3))
			wantParsed(t, script+"# x\n \n"+line+"x", refusal(api.ErrScript, at+2))
			wantParsed(t, script+"# x\n \n# "+line, parsed{rules: someRules(), steps: slices.Repeat([]api.Step{x}, api.MaxSteps)})
		}
	}
}

// P20.1: a text of MaxScript bytes and one more, whatever stands there.
func TestMaxScript(t *testing.T) {
	for _, tail := range []string{"start\n", "start", "bytes 1 \"x\" # \n", "\nx", "!", "plan 1"} {
		for _, filler := range []string{" ", "\n", "\r", "#", "# \n"} {
			room := api.MaxScript - len(head) - len(tail)
			script := head + strings.Repeat(filler, room/len(filler)) + strings.Repeat("\n", room%len(filler)) + tail
			if filler == "#" {
				script = script[:len(script)-len(tail)-1] + "\n" + tail
			}
			if len(script) != api.MaxScript {
				t.Fatal(len(script))
			}
			want := newSlowReader().parse(script)
			if (want.code == api.OK) != (len(want.steps) == 1) {
				t.Fatalf("%s: %+v", inShort(script), want)
			}
			wantParsed(t, script, want)
			wantParsed(t, script+"\n", refusal(api.ErrLong, 0))
			wantParsed(t, "\n"+script, refusal(api.ErrLong, 0))
			wantParsed(t, script+script, refusal(api.ErrLong, 0))
		}
	}
	long := strings.Repeat("y", api.MaxScript-len(head)-len(`bytes 1 ""`))
	wantSteps(t, `bytes 1 "`+long+`"`, bytes(1, long))
	wantSteps(t, `line 1 "`+long[1:]+"\"\n", bytes(1, long[1:]+"\r\n"))
	wantParsed(t, head+`bytes 1 "`+long+`y"`, refusal(api.ErrLong, 0))
	wantNone(t, `bytes 1 "`+long+`y`, strings.Repeat("x", len(long)), strings.Repeat("x ", len(long)/2), "plan"+strings.Repeat(" 1 1 1", len(long)/6))
	wantParsed(t, strings.Repeat("\n", api.MaxScript), refusal(api.ErrScript, 0))
	wantParsed(t, strings.Repeat("\n", api.MaxScript-1)+"x", refusal(api.ErrScript, api.MaxScript))
	wantParsed(t, strings.Repeat("\x00", api.MaxScript+1), refusal(api.ErrLong, 0))
}

// P20.1: plans of no stops to 8, of 9 and more, and of numbers that are no three a stop.
func TestStops(t *testing.T) {
	for count := range 60 {
		line := "plan"
		var stops []api.Stop
		for i := range count {
			line += fmt.Sprint(" ", i-3)
			if i%3 == 2 {
				stops = append(stops, stopAt(i-5, i-4, i-3))
			}
		}
		if count%3 == 0 && count <= 24 {
			wantSteps(t, line, plan(stops...))
		} else {
			wantNone(t, line)
		}
	}
}

// P20.1: the chapter's examples.
func TestParseExamples(t *testing.T) {
	r := `rules user "u" pass "p" quota 100000 validity 7 uid 1 number 2 every 0 now 2026 11 14 17 0 0 0`
	rules := api.Rules{User: "u", Pass: "p", Quota: 100000, Validity: 7, Uid: 1, Number: 2, Now: api.Moment{Year: 2026, Month: 11, Day: 14, Hour: 17}}
	wantParsed(t, "", refusal(api.ErrScript, 0))
	wantParsed(t, "# nothing", refusal(api.ErrScript, 0))
	wantParsed(t, r, parsed{rules: rules})
	wantParsed(t, r+"\nopen 1", parsed{rules: rules, steps: []api.Step{open(1)}})
	wantParsed(t, r+"\nline 1 \"a NOOP\"", parsed{rules: rules, steps: []api.Step{bytes(1, "a NOOP\r\n")}})
	for _, line := range []string{"open", "open 01", "open1", "open 1 2", "Open 1", "line 1 x", "plan 1 2", `bytes 1 "\q"`} {
		wantParsed(t, r+"\n"+line, refusal(api.ErrScript, 2))
	}
	wantParsed(t, r+"\nplan", parsed{rules: rules, steps: []api.Step{plan()}})
	wantParsed(t, r+"\nplan 3 0 -1 1 1 1", parsed{rules: rules, steps: []api.Step{plan(stopAt(3, 0, -1), stopAt(1, 1, 1))}})
}

// P20.1: whether the numbers mean something is not looked at.
func TestMeaningless(t *testing.T) {
	script := `rules user "" pass "" quota -1 validity 0 uid -5 number 0 every -9 now 0 99 -1 77 88 99 4294967295
open -3
cut 0
bytes 99 ""
plan -1 -2 -3
start
start`
	got := parse(script)
	if got.code != api.OK || len(got.steps) != 6 || got.rules.Now.Zone != api.MaxNumber {
		t.Errorf("P20.1: %+v", got)
	}
}

// P20.1: every byte of a script turned into every other one, every byte put in everywhere, every piece taken out: as a reader of another make reads it.
func TestEachByte(t *testing.T) {
	t.Parallel()
	slow := newSlowReader()
	rules := `rules user "\x4f" pass "" quota 0 validity 0 uid 0 number 0 every 0 now 0 0 0 0 0 0 0`
	counts := map[api.Errno]int{}
	hold := func(script string) {
		t.Helper()
		want := slow.parse(script)
		wantParsed(t, script, want)
		counts[want.code]++
	}
	for _, script := range []string{rules, "plan 1 -2 30 # x", `line 10 "a\"\\\r\x4F#b"`, "open 5\n\n cut -6", "start \ncheck"} {
		if script != rules {
			script = rules + "\n" + script
		}
		from := 0
		if script != rules {
			from = len(rules)
		}
		for at := from; at <= len(script); at++ {
			for c := range 256 {
				b := string([]byte{byte(c)})
				hold(script[:at] + b + script[at:])
				if at < len(script) {
					hold(script[:at] + b + script[at+1:])
				}
			}
			for end := at; end <= min(len(script), at+12); end++ {
				hold(script[:at] + script[end:])
			}
			hold(script[:at])
			hold(script[at:])
		}
	}
	if counts[api.OK] < 1000 || counts[api.ErrScript] < 10000 {
		t.Errorf("%v say too little", counts)
	}
}

// P20.1, W1: random texts of words and bytes, as a reader of another make reads them.
func TestRandomTexts(t *testing.T) {
	t.Parallel()
	r := rand.New(rand.NewPCG(20, 1))
	slow := newSlowReader()
	counts := map[api.Errno]int{}
	for range 12000 {
		script := someScript(r)
		want := slow.parse(script)
		wantParsed(t, script, want)
		counts[want.code]++
	}
	for range 3000 {
		text := make([]byte, r.IntN(60))
		for i := range text {
			text[i] = oneOf(r, ' ', '\n', '"', '\\', '#', '0', '1', '-', 'a', 'o', byte(r.IntN(256)))
		}
		wantParsed(t, string(text), slow.parse(string(text)))
		wantParsed(t, head+string(text), slow.parse(head+string(text)))
	}
	if counts[api.OK] < 2000 || counts[api.ErrScript] < 2000 || counts[api.ErrLong] < 20 {
		t.Errorf("%v say too little", counts)
	}
}

// someScript is a random script: its lines mostly as they may be, with blanks, comments and pieces written in any way; some with a fault, some too long.
func someScript(r *rand.Rand) string {
	count := r.IntN(6)
	if r.IntN(100) == 0 {
		count = api.MaxSteps - 2 + r.IntN(5)
	}
	faulty := -1
	if r.IntN(2) == 0 {
		faulty = r.IntN(count + 1)
	}
	rules, _ := play.Print(anyRules(r), nil)
	out := spaced(r, strings.TrimSpace(rules), faulty == 0)
	for i := range count {
		text, _ := play.Print(api.Rules{}, []api.Step{anyStep(r)})
		_, line, _ := strings.Cut(text, "\n")
		out += spaced(r, strings.TrimSuffix(line, "\n"), faulty == i+1)
	}
	return out[:len(out)-r.IntN(2)]
}

// spaced is a line written in another way that means the same, or that has a fault.
func spaced(r *rand.Rand, line string, isFaulty bool) string {
	words := cutAlready(line)
	for i, w := range words {
		words[i] = otherwise(r, w)
	}
	if isFaulty {
		at := r.IntN(len(words) + 1)
		switch {
		case r.IntN(3) == 0:
			words = slices.Insert(words, at, oneOf(r, "x", "1", `""`, "-", "$", "\x00", "open", "0"+"1", `"`))
		case at == len(words):
			words = words[:at-1]
		case r.IntN(2) == 0:
			words[at] = oneOf(r, strings.ToUpper(words[at]), words[at]+oneOf(r, "1", "x", "#", `"`, "\\"), "0"+words[at], words[at][1:])
		default:
			words = slices.Delete(words, at, at+1)
		}
	}
	gap := func() string { return strings.Repeat(oneOf(r, " ", " ", "\t", "\r"), 1+r.IntN(2)) }
	out := oneOf(r, "", "", "\n", gap(), "# x\n", gap()+"#\n")
	for i, w := range words {
		if i > 0 {
			out += gap()
		}
		out += w
	}
	return out + oneOf(r, "", "", gap(), gap()+"# y \" z", gap()+"#\xff") + "\n"
}

// cutAlready cuts a line that Print has written: a quote ends at the first `"` that no backslash makes a byte.
func cutAlready(line string) []string {
	var out []string
	for line != "" {
		end := strings.IndexByte(line+" ", ' ')
		if line[0] == '"' {
			end = 1
			for line[end] != '"' {
				end++
				if line[end-1] == '\\' {
					end++
				}
			}
			end++
		}
		out = append(out, line[:end])
		line = strings.TrimPrefix(line[end:], " ")
	}
	return out
}

// otherwise writes a word's pieces in another way that means the same.
func otherwise(r *rand.Rand, word string) string {
	if word == "" || word[0] != '"' {
		return word
	}
	return `"` + pieces.ReplaceAllStringFunc(word[1:len(word)-1], func(piece string) string {
		b := slowUnquoted(`"` + piece + `"`)
		number := fmt.Sprintf(`\x%02x`, b)
		if b >= "\x80" {
			return oneOf(r, piece, b, `\x`+strings.ToUpper(number[2:]))
		}
		return oneOf(r, piece, piece, number, `\x`+strings.ToUpper(number[2:]))
	}) + `"`
}

// pieces are those of a quoted word.
var pieces = regexp.MustCompile(`(?s)\\x..|\\.|.`)
