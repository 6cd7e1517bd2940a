package search_test

import (
	"fmt"
	"math/rand/v2"
	"regexp"
	"slices"
	"strings"
	"testing"

	"postbag/api"
	"postbag/moment"
	"postbag/search"
)

// cut is a message's header and body.
func cut(raw string) (string, string) {
	if strings.HasPrefix(raw, end) {
		return end, raw[2:]
	}
	if at := strings.Index(raw, end+end); at >= 0 {
		return raw[:at+4], raw[at+4:]
	}
	return raw, ""
}

var firstLine = regexp.MustCompile(`^([!-9;-~]+)[ \t]*:`)

// headerOf is the first fields of a message, name and value in turn.
func headerOf(raw string) [][2]string {
	var found [][2]string
	isField := false
	head, _ := cut(raw)
	for _, line := range strings.SplitAfter(head, end) {
		switch m := firstLine.FindStringSubmatch(line); {
		case line == "" || line == end:
		case line[0] == ' ' || line[0] == '\t':
			if isField {
				found[len(found)-1][1] += line
			}
		case m != nil:
			found, isField = append(found, [2]string{m[1], line[len(m[0]):]}), true
		default:
			isField = false
		}
	}
	for i := range found {
		found[i][1] = strings.Trim(strings.ReplaceAll(found[i][1], end, ""), " \t")
	}
	return found[:min(len(found), api.MaxFields)]
}

func isIn(text, part string) bool { return strings.Contains(large(text), large(part)) }

func hasField(raw, name, part string) bool {
	return slices.ContainsFunc(headerOf(raw), func(f [2]string) bool { return large(f[0]) == large(name) && isIn(f[1], part) })
}

func hasNumber(set []api.Range, n, greatest int) bool {
	for _, p := range set {
		if p.From == 0 {
			p.From = greatest
		}
		if p.To == 0 {
			p.To = greatest
		}
		if greatest > 0 && n > 0 && (p.From <= n && n <= p.To || p.To <= n && n <= p.From) {
			return true
		}
	}
	return false
}

// written is a day as a number that rises from day to day.
func written(m api.Moment) int { return (m.Year*100+m.Month)*100 + m.Day }

// sentDay is the day of a message's header, 0 where there is none.
func sentDay(raw string) int {
	for _, f := range headerOf(raw) {
		if large(f[0]) == "DATE" {
			m, _ := moment.ReadHeader(f[1])
			return written(m)
		}
	}
	return 0
}

// cameDay is the day of a message's date, 0 where that is none.
func cameDay(m api.Moment) int {
	isTime := 0 <= m.Hour && m.Hour < 24 && 0 <= m.Minute && m.Minute < 60 && 0 <= m.Second && m.Second < 60 && -1440 < m.Zone && m.Zone < 1440
	if !isTime || !isDay(api.Moment{Year: m.Year, Month: m.Month, Day: m.Day}) {
		return 0
	}
	return written(m)
}

// held is what Holds is to answer of a tree that may be.
func held(k api.Key, m api.Mail, last api.Last) bool {
	_, body := cut(m.Raw)
	has := func(flag string) bool {
		return slices.ContainsFunc(m.Flags, func(f string) bool { return large(f) == large(flag) })
	}
	came, sent, asked := cameDay(m.Date), sentDay(m.Raw), written(k.Day)
	switch k.Kind {
	case api.KeyAnd, api.KeyOr:
		n := 0
		for _, kid := range k.Kids {
			if held(kid, m, last) {
				n++
			}
		}
		return n == len(k.Kids) || n > 0 && k.Kind == api.KeyOr
	case api.KeyNot:
		return !held(k.Kids[0], m, last)
	case api.KeySet:
		return hasNumber(k.Set, m.Seq, last.Seq)
	case api.KeyUid:
		return hasNumber(k.Set, m.Uid, last.Uid)
	case api.KeyFlag:
		return k.Text == `\Recent` && m.Recent || k.Text != `\Recent` && has(k.Text)
	case api.KeyUnflag:
		return !has(k.Text)
	case api.KeyNew:
		return m.Recent && !has(`\Seen`)
	case api.KeyOld:
		return !m.Recent
	case api.KeyBcc, api.KeyCc, api.KeyFrom, api.KeySubject, api.KeyTo:
		return hasField(m.Raw, map[int]string{api.KeyBcc: "bcc", api.KeyCc: "cc", api.KeyFrom: "from", api.KeySubject: "subject", api.KeyTo: "to"}[k.Kind], k.Text)
	case api.KeyHeader:
		return hasField(m.Raw, k.Field, k.Text)
	case api.KeyBody:
		return isIn(body, k.Text)
	case api.KeyText:
		return isIn(m.Raw, k.Text)
	case api.KeyBefore:
		return 0 < came && came < asked
	case api.KeyOn:
		return came == asked
	case api.KeySince:
		return came >= asked
	case api.KeySentBefore:
		return 0 < sent && sent < asked
	case api.KeySentOn:
		return sent == asked
	case api.KeySentSince:
		return sent >= asked
	case api.KeyLarger:
		return len(m.Raw) > k.Num
	case api.KeySmaller:
		return len(m.Raw) < k.Num
	case api.KeyModseq:
		return m.Modseq >= k.Num
	}
	return true
}

// lookAtHolds: P7.4, P7.6, P7.7, W6.
func lookAtHolds(t *testing.T, k api.Key, m api.Mail, last api.Last) bool {
	t.Helper()
	in := roomy(k)
	m.Flags = spacious(m.Flags)
	before := shown(in) + fmt.Sprint(m.Flags[:cap(m.Flags)])
	is := search.Holds(in, m, last)
	if want := checked(k) == api.OK && held(k, m, last); is != want {
		t.Errorf("Holds(%.300s, %+v, %v): %v", shown(k), m, last, is)
	}
	if before != shown(in)+fmt.Sprint(m.Flags[:cap(m.Flags)]) {
		t.Errorf("Holds(%.300s, %+v, %v) changes it", shown(k), m, last)
	}
	return is
}

// ask is whether the key of a line holds.
func ask(t *testing.T, s string, m api.Mail, last api.Last) bool {
	t.Helper()
	return lookAtHolds(t, read(t, s), m, last)
}

func raw(s string) api.Mail { return api.Mail{Raw: strings.ReplaceAll(s, "\n", end)} }

// P7.4: every kind, holding and not.
func TestEachKindHolding(t *testing.T) {
	last := api.Last{Seq: 3, Uid: 9}
	m := raw("subject: say\n hello\nX-A:\nFrom: Joe <joe@x>\nTo: a, b\nCC: c\nBcc: d\nDate: Sun, 1 Feb 2026 23:00 -1000\n\nbody")
	m.Seq, m.Uid, m.Modseq, m.Flags = 3, 9, 4, []string{`\seen`, "Work", `\Draft`}
	m.Date = api.Moment{Year: 2026, Month: 2, Day: 3, Hour: 23, Zone: -600}
	size := len(m.Raw)
	for s, want := range map[string]bool{
		`ALL`: true, `NOT ALL`: false, `NOT NOT ALL`: true, `OR ALL NOT ALL`: true, `OR NOT ALL ALL`: true, `OR NOT ALL NOT ALL`: false, `OR ALL ALL`: true, `ALL ALL`: true, `ALL NOT ALL`: false, `NOT ALL ALL`: false, `ALL ALL NOT ALL ALL`: false,
		`3`: true, `2`: false, `4`: false, `1:2`: false, `2:4`: true, `4:2`: true, `5:*`: true, `4:5`: false, `*`: true, `1,2,3`: true, `9`: false,
		`UID 9`: true, `UID 3`: false, `UID *`: true, `UID 1:8`: false, `UID 12:*`: true, `UID 12:13`: false,
		`SEEN`: true, `UNSEEN`: false, `DRAFT`: true, `UNDRAFT`: false, `FLAGGED`: false, `UNFLAGGED`: true, `ANSWERED`: false, `UNANSWERED`: true, `DELETED`: false, `UNDELETED`: true,
		`KEYWORD work`: true, `KEYWORD WORK`: true, `KEYWORD wor`: false, `KEYWORD works`: false, `UNKEYWORD work`: false, `UNKEYWORD x`: true, `KEYWORD Seen`: false, `UNKEYWORD Seen`: true,
		`RECENT`: false, `NEW`: false, `OLD`: true,
		`SUBJECT HELLO`: true, `SUBJECT "say hello"`: true, `SUBJECT say`: true, `SUBJECT hello-`: false, `SUBJECT joe`: false, `FROM joe`: true, `FROM "<JOE@X>"`: true, `FROM say`: false, `TO "A, B"`: true, `TO c`: false, `CC C`: true, `CC d`: false, `BCC d`: true, `BCC a`: false,
		`HEADER x-a ""`: true, `HEADER X-A x`: false, `HEADER x-b ""`: false, `HEADER Subject hello`: true, `HEADER from hello`: false, `HEADER date 2026`: true, `HEADER "" ""`: false, `HEADER subject: ""`: false,
		`BODY body`: true, `BODY BODY`: true, `BODY x-a`: false, `BODY ""`: true, `TEXT x-a`: true, `TEXT body`: true, `TEXT bodyx`: false, `TEXT ""`: true,
		`BEFORE 4-Feb-2026`: true, `BEFORE 3-Feb-2026`: false, `BEFORE 2-Feb-2026`: false, `ON 3-Feb-2026`: true, `ON 4-Feb-2026`: false, `ON 2-Feb-2026`: false, `SINCE 3-Feb-2026`: true, `SINCE 2-Feb-2026`: true, `SINCE 4-Feb-2026`: false, `SINCE 1-Jan-0001`: true, `BEFORE 31-Dec-9999`: true,
		`SENTBEFORE 2-Feb-2026`: true, `SENTBEFORE 1-Feb-2026`: false, `SENTON 1-Feb-2026`: true, `SENTON 2-Feb-2026`: false, `SENTON 31-Jan-2026`: false, `SENTSINCE 1-Feb-2026`: true, `SENTSINCE 31-Jan-2026`: true, `SENTSINCE 2-Feb-2026`: false,
		fmt.Sprint(`LARGER `, size-1): true, fmt.Sprint(`LARGER `, size): false, fmt.Sprint(`LARGER `, size+1): false, fmt.Sprint(`SMALLER `, size+1): true, fmt.Sprint(`SMALLER `, size): false, fmt.Sprint(`SMALLER `, size-1): false, `LARGER 4294967295`: false, `SMALLER 4294967295`: true, `LARGER 0`: true, `SMALLER 0`: false,
		`MODSEQ 4`: true, `MODSEQ 5`: false, `MODSEQ 3`: true, `MODSEQ 0`: true,
		`or 1 seen`: true, `seen 1`: false, `NOT (seen 1)`: true, `NOT (OR 1 2)`: true,
	} {
		if ask(t, s, m, last) != want {
			t.Errorf("%s", s)
		}
		if ask(t, "NOT ("+s+")", m, last) == want {
			t.Errorf("NOT (%s)", s)
		}
	}
}

// P7.4: texts in any case, empty ones, at the ends, longer than what is looked into; nothing is decoded.
func TestTextsWithin(t *testing.T) {
	for _, c := range []struct {
		text, part string
		want       bool
	}{
		{"", "", true}, {"a", "", true}, {"", "a", false}, {"abc", "ABC", true}, {"ABC", "abc", true}, {"abc", "abcd", false}, {"abc", "bc", true}, {"abc", "AB", true}, {"abc", "ac", false}, {"aab", "ab", true}, {"ababac", "abac", true},
		{"é", "É", false}, {"\xe9", "\xc9", false}, {"\xe9", "\xe9", true}, {"\u017f", "s", false}, {"\u212a", "k", false}, {"[", "{", false}, {"@", "`", false}, {"Z", "z", true}, {"A", "a", true}, {"a\x00b", "\x00B", true},
		{"=?utf-8?q?a?=", "a?=", true}, {"=?utf-8?q?=41?=", "A?=", false}, {"=?utf-8?q?=41?=", "=41", true}, {"a  b", "a b", false}, {"a=3Db", "a=b", false},
	} {
		for _, kind := range []int{api.KeyBcc, api.KeyCc, api.KeyFrom, api.KeySubject, api.KeyTo} {
			m := raw(map[int]string{api.KeyBcc: "bcc", api.KeyCc: "cc", api.KeyFrom: "from", api.KeySubject: "subject", api.KeyTo: "to"}[kind] + ":" + c.text)
			if lookAtHolds(t, text(kind, c.part), m, api.Last{}) != c.want {
				t.Errorf("kind %d: %q in %q", kind, c.part, c.text)
			}
		}
		for _, m := range []api.Mail{raw("\n" + c.text), raw("a: b\n\n" + c.text)} {
			if lookAtHolds(t, text(api.KeyBody, c.part), m, api.Last{}) != c.want {
				t.Errorf("%q in the body of %q", c.part, m.Raw)
			}
		}
		if lookAtHolds(t, text(api.KeyText, c.part), raw(c.text), api.Last{}) != c.want {
			t.Errorf("%q in %q", c.part, c.text)
		}
		if lookAtHolds(t, header("x", c.part), raw("X: "+c.text), api.Last{}) != c.want {
			t.Errorf("%q in the field of %q", c.part, c.text)
		}
	}
	long := strings.Repeat("ab", api.MaxLiteral/2)
	for _, k := range []api.Key{text(api.KeyText, long), text(api.KeyBody, long), header("x", long)} {
		for _, m := range []api.Mail{raw("x: " + long + "\n\n" + long), raw("x: " + long[1:] + "\n\n" + long[1:]), raw("x: a" + long + "\n\na" + long)} {
			lookAtHolds(t, k, m, api.Last{})
		}
	}
}

// P7.4: fields that are missing, twice, folded, of other names; header and body apart.
func TestFieldsWithin(t *testing.T) {
	many := strings.Repeat("a: b\n", api.MaxFields-1)
	for _, c := range []struct {
		raw  string
		key  api.Key
		want bool
	}{
		{"", header("x", ""), false}, {"", text(api.KeySubject, ""), false}, {"\n", text(api.KeyBody, ""), true}, {"x:", header("X", ""), true}, {"x", header("x", ""), false},
		{"X: a\nx: b\n\n", header("x", "a"), true}, {"X: a\nx: b\n\n", header("x", "b"), true}, {"X: a\nx: b\n\n", header("x", "ab"), false}, {"X: a\nY: b\n\n", header("x", "b"), false},
		{"subject: a\n b\n\tc\n\n", text(api.KeySubject, "a b\tc"), true}, {"subject: a\n b\n\n", text(api.KeySubject, "ab"), false}, {"subject: a\n b\n\n", text(api.KeySubject, "a\r\n b"), false}, {"subject: a\n b\n\n", text(api.KeyText, "a\r\n b"), true},
		{"subject:  a \n\n", text(api.KeySubject, " "), false}, {"subject : a\n\n", text(api.KeySubject, "a"), true}, {"no subject: a\n\n", text(api.KeySubject, "a"), false}, {"x-subject: a\n\n", text(api.KeySubject, "a"), false}, {"subject: a:b", text(api.KeySubject, "A:B"), true},
		{"\nsubject: a\n\n", text(api.KeySubject, "a"), false}, {"\nsubject: a\n\n", text(api.KeyBody, "subject"), true}, {"x: y\n\nsubject: a", text(api.KeySubject, "a"), false}, {"x: y\n\nsubject: a", text(api.KeyBody, "x: y"), false}, {"x: y\n\nz", text(api.KeyBody, "\r\nz"), false}, {"x: y\n\nz", text(api.KeyText, "\r\n\r\nz"), true},
		{"x: y\n z", text(api.KeyBody, ""), true}, {"x: y\n z", text(api.KeyBody, "z"), false}, {"x: y\n z", header("x", "y z"), true},
		{many + "x: y\n", header("x", "y"), true}, {many + "a: b\nx: y\n", header("x", "y"), false}, {many + "a: b\nx: y\n", text(api.KeyText, "x: y"), true}, {many + "no field\nx: y\n", header("x", "y"), true},
		{"To: a\nCc: b\nBcc: c\n\n", text(api.KeyTo, "b"), false}, {"To: a\nCc: b\nBcc: c\n\n", text(api.KeyCc, "c"), false}, {"To: a\nCc: b\nBcc: c\n\n", text(api.KeyCc, "b"), true}, {"Sender: a\n\n", text(api.KeyFrom, "a"), false}, {"Resent-To: a\n\n", text(api.KeyTo, "a"), false},
	} {
		if lookAtHolds(t, c.key, raw(c.raw), api.Last{}) != c.want {
			t.Errorf("%s of %.100q", shown(c.key), c.raw)
		}
	}
}

// P7.4: a date that is none; days as they are written, whatever the zone.
func TestDaysOfDates(t *testing.T) {
	right := api.Moment{Year: 2026, Month: 3, Day: 1}
	lines := []string{"BEFORE 28-Feb-2026", "BEFORE 1-Mar-2026", "BEFORE 2-Mar-2026", "ON 28-Feb-2026", "ON 1-Mar-2026", "ON 2-Mar-2026", "SINCE 28-Feb-2026", "SINCE 1-Mar-2026", "SINCE 2-Mar-2026", "SINCE 1-Jan-1970", "ON 1-Jan-1970", "BEFORE 2-Jan-1970", "SINCE 1-Jan-0001", "BEFORE 31-Dec-9999"}
	for _, turned := range []func(*api.Moment){
		func(m *api.Moment) { m.Day = 0 }, func(m *api.Moment) { m.Day = 32 }, func(m *api.Moment) { m.Month = 13 }, func(m *api.Moment) { m.Year = 0 }, func(m *api.Moment) { m.Year = 10000 }, func(m *api.Moment) { m.Month, m.Day = 2, 29 },
		func(m *api.Moment) { m.Hour = 24 }, func(m *api.Moment) { m.Hour = -1 }, func(m *api.Moment) { m.Minute = 60 }, func(m *api.Moment) { m.Second = 60 }, func(m *api.Moment) { m.Second = -1 }, func(m *api.Moment) { m.Zone = 1440 }, func(m *api.Moment) { m.Zone = -1440 },
		func(m *api.Moment) { *m = api.Moment{} }, func(m *api.Moment) { *m = api.Moment{Year: most, Month: least, Day: most, Hour: least, Zone: most} },
	} {
		m := api.Mail{Date: right}
		turned(&m.Date)
		for _, s := range lines {
			if ask(t, s, m, api.Last{}) || !ask(t, "NOT "+s, m, api.Last{}) {
				t.Errorf("%s of %+v", s, m.Date)
			}
		}
	}
	for _, zone := range []int{-1439, -600, 0, 600, 1439} {
		for _, hour := range []int{0, 12, 23} {
			m := api.Mail{Date: right}
			m.Date.Hour, m.Date.Minute, m.Date.Second, m.Date.Zone = hour, 59, 59, zone
			for i, s := range lines {
				if is := ask(t, s, m, api.Last{}); is != slices.Contains([]int{2, 4, 6, 7, 9, 12, 13}, i) {
					t.Errorf("%s of %+v: %v", s, m.Date, is)
				}
			}
		}
	}
}

// P7.4: the header's date: the first field Date.
func TestDaysOfHeaders(t *testing.T) {
	many := strings.Repeat("a: b\n", api.MaxFields-1)
	lines := []string{"SENTBEFORE 1-Mar-2026", "SENTBEFORE 2-Mar-2026", "SENTON 28-Feb-2026", "SENTON 1-Mar-2026", "SENTON 2-Mar-2026", "SENTSINCE 1-Mar-2026", "SENTSINCE 2-Mar-2026", "SENTSINCE 1-Jan-0001", "SENTBEFORE 31-Dec-9999", "SENTON 1-Jan-1970"}
	for s, isThere := range map[string]bool{
		"Date: Sun, 1 Mar 2026 10:00 +0000\n\n": true, "dAtE: 1 mar 26 0:0 -1000": true, "Date : 1 Mar 2026 23:59:60 +2359\n": true, "Date: 1 Mar\n 2026 (x) 00:00 +1400\n\n": true,
		"Date: 1 Mar 2026 10:00\nDate: 5 Mar 2026 10:00\n": true, "X: y\ndate: 1 Mar 2026 10:00\ndate: x": true, many + "Date: 1 Mar 2026 10:00\n": true,
		"": false, "\n": false, "X: 1 Mar 2026 10:00\n\n": false, "Date:\n\n": false, "Date: 1 Mar 2026\n\n": false, "Date: 30 Feb 2026 10:00\n\n": false, "Date: x\nDate: 1 Mar 2026 10:00\n\n": false, "Date:\nDate: 1 Mar 2026 10:00\n\n": false,
		"\nDate: 1 Mar 2026 10:00\n\n": false, "X: y\n\nDate: 1 Mar 2026 10:00": false, "Resent-Date: 1 Mar 2026 10:00\n": false, "Date: 1 Mar 2026 10:00 x y\n": false, many + "a: b\nDate: 1 Mar 2026 10:00\n": false, "Date: 1 Mar 2026 24:00\n\n": false,
	} {
		m := raw(s)
		m.Date = api.Moment{Year: 2026, Month: 3, Day: 1}
		for i, line := range lines {
			want := isThere && slices.Contains([]int{1, 3, 5, 7, 8}, i)
			if is := ask(t, line, m, api.Last{}); is != want || ask(t, "NOT "+line, m, api.Last{}) == want {
				t.Errorf("%s of %.100q: %v", line, s, is)
			}
		}
	}
}

// P7.4, P7.7: sets with a star, the greatest at 0, numbers at the ends of int.
func TestNumbersWithin(t *testing.T) {
	ends := []int{least, least + 1, -1, 0, 1, 2, 3, 5, api.MaxNumber - 1, api.MaxNumber, api.MaxNumber + 1, most - 1, most}
	for _, s := range []string{"*", "1:*", "5:*", "*:5", "1", "5", "4294967295", "4294967295:*", "2,*", "1:4294967295", "3:1"} {
		for _, n := range ends {
			for _, greatest := range ends {
				ask(t, s, api.Mail{Seq: n, Uid: 77}, api.Last{Seq: greatest, Uid: 77})
				ask(t, "UID "+s, api.Mail{Uid: n, Seq: 77}, api.Last{Uid: greatest, Seq: 77})
			}
		}
	}
	for _, n := range ends {
		for _, asked := range []int{0, 1, 5, api.MaxNumber - 1, api.MaxNumber} {
			lookAtHolds(t, number(api.KeyModseq, asked), api.Mail{Modseq: n}, api.Last{})
		}
	}
	m := api.Mail{Seq: 3, Uid: 3}
	if !ask(t, "5:*", m, api.Last{Seq: 3}) || ask(t, "5:*", m, api.Last{}) || ask(t, "1:9", m, api.Last{Seq: 0, Uid: 9}) || ask(t, "UID 1:9", m, api.Last{Seq: 9, Uid: -1}) {
		t.Error("5:* with the greatest 3, 0")
	}
}

// P7.4: a key that Check refuses holds for nothing, nor does its KeyNot.
func TestRefusedKeysHoldForNothing(t *testing.T) {
	m := raw("a: b\n\nc")
	m.Recent, m.Flags = true, []string{`\Seen`, `\Recent`, "x y", ""}
	for _, k := range []api.Key{
		{}, {Kind: 28}, {Kind: -1}, and(), and(all()), {Kind: api.KeyOr, Kids: []api.Key{all()}}, {Kind: api.KeyOr, Kids: times(3, all())}, {Kind: api.KeyNot}, {Kind: api.KeyAll, Num: 1}, {Kind: api.KeyAll, Kids: []api.Key{all()}},
		unflag(`\Recent`), flag(`\seen`), flag("x y"), flag(""), unflag(""), text(api.KeyText, strings.Repeat("c", api.MaxLiteral+1)), number(api.KeyLarger, -1), number(api.KeyModseq, -1), number(api.KeySmaller, api.MaxNumber+1), set(api.KeySet), day(api.KeySince, 0, 1, 1),
		nots(10, all()), and(times(32, all())...), or(all(), nots(8, all())), or(all(), api.Key{}), and(not(all()), api.Key{}),
	} {
		for _, k := range []api.Key{k, not(k), or(all(), k), or(k, all())} {
			if lookAtHolds(t, k, m, api.Last{Seq: 1, Uid: 1}) {
				t.Errorf("Holds(%.100s)", shown(k))
			}
		}
	}
}

// P7.6: flags in any order and case; Recent alone tells \Recent.
func TestFlagsOfMessages(t *testing.T) {
	for _, f := range [][]string{nil, {}, {`\Seen`}, {`\SEEN`}, {`\seen`, `\seen`}, {"x", `\sEEn`}, {`\Recent`}, {`\RECENT`, `\Seen`}, {"Seen", "Recent"}, {"seen "}, {`\Seen `}, {`\\Seen`}, {"\\\u017feen"}, {""}, {"\u212a", "k\x00"}, {`\Draft`, `\Deleted`, `\Answered`, `\Flagged`}, {"WORK", "$junk"}} {
		for _, isRecent := range []bool{false, true} {
			m := api.Mail{Flags: f, Recent: isRecent}
			for _, s := range []string{"SEEN", "UNSEEN", "DRAFT", "UNDRAFT", "DELETED", "UNDELETED", "ANSWERED", "UNANSWERED", "FLAGGED", "UNFLAGGED", "RECENT", "NEW", "OLD", "KEYWORD Seen", "UNKEYWORD seen", "KEYWORD Recent", "UNKEYWORD recent", "KEYWORD work", "UNKEYWORD Work", "KEYWORD $Junk", "KEYWORD k", "KEYWORD x"} {
				ask(t, s, m, api.Last{})
			}
			if ask(t, "RECENT", m, api.Last{}) != isRecent || ask(t, "OLD", m, api.Last{}) == isRecent || ask(t, "NEW", m, api.Last{}) != (isRecent && ask(t, "UNSEEN", m, api.Last{})) {
				t.Errorf("RECENT, OLD, NEW of %q, %v", f, isRecent)
			}
			m.Flags = slices.Clone(f)
			slices.Reverse(m.Flags)
			for i, flag := range m.Flags {
				m.Flags[i] = mixed(flag)
			}
			for _, s := range []string{"SEEN", "UNSEEN", "NEW", "KEYWORD work", "DRAFT", "KEYWORD k"} {
				if ask(t, s, m, api.Last{}) != ask(t, s, api.Mail{Flags: f, Recent: isRecent}, api.Last{}) {
					t.Errorf("%s of %q and of %q", s, f, m.Flags)
				}
			}
		}
	}
}

// someMail is a random message.
func someMail(r *rand.Rand) api.Mail {
	m := api.Mail{Seq: oneOf(r, 1, 2, 3, 5, 9, 0, -1, most), Uid: oneOf(r, 1, 2, 4, 7, 9, least), Modseq: oneOf(r, 0, 1, 4, 30, -5), Recent: r.IntN(2) == 0}
	m.Date = api.Moment{Year: oneOf(r, 1, 1969, 2026, 2026, 0), Month: 1 + r.IntN(2), Day: 1 + r.IntN(4), Hour: oneOf(r, 0, 23, 24), Zone: oneOf(r, 0, -600)}
	for range r.IntN(4) {
		m.Flags = append(m.Flags, oneOf(r, `\Seen`, `\SEEN`, `\Draft`, `\recent`, "Work", "x", "nil", "$junk", "seen", ""))
	}
	for range r.IntN(8) {
		m.Raw += oneOf(r, "Subject", "subject", "X-A", "Date", "from", "TO", "cc", "Bcc", "Received", "no field") + oneOf(r, ": ", ":", " : ", " ", ":"+end+" ")
		m.Raw += oneOf(r, "", "Hello", "say hello world", "a"+end+"\tb", "1 Feb 2026 10:00", "Sun, 2 Jan 2026 23:00 -1000", "30 Feb 2026 1:00", "\"q\\", "é", "NIL", "x") + end
	}
	if r.IntN(5) > 0 {
		m.Raw += end
	}
	for range r.IntN(4) {
		m.Raw += oneOf(r, "hello", " World", end, "a", end+end, "3", "\x00", "\xff\x7f", "é", "x-a")
	}
	return m
}

// P7.4 to P7.7: trees and messages of many kinds.
func TestMessagesOfManyKinds(t *testing.T) {
	r := rand.New(rand.NewPCG(7, 4))
	n := 0
	for range 6000 {
		m, last := someMail(r), api.Last{Seq: oneOf(r, 0, 1, 3, 9, most), Uid: oneOf(r, 0, 1, 7, 9, -1)}
		k := someKey(r, oneOf(r, 0, 0, 1, 3, 6))
		if r.IntN(9) == 0 {
			all := places(&k)
			spoil(r, all[r.IntN(len(all))])
		}
		if lookAtHolds(t, k, m, last) {
			n++
		}
	}
	if n < 1000 || n > 5000 {
		t.Errorf("%d of 6000 hold", n)
	}
}

// turned is a tree with the keys of each KeyAnd and KeyOr in another order.
func turned(r *rand.Rand, k api.Key) api.Key {
	kids := slices.Clone(k.Kids)
	r.Shuffle(len(kids), func(i, j int) { kids[i], kids[j] = kids[j], kids[i] })
	for i, kid := range kids {
		kids[i] = turned(r, kid)
	}
	k.Kids = kids
	return k
}

// P7.5: KeyNot, the order of keys, brackets.
func TestWhatFollowsForTrees(t *testing.T) {
	r := rand.New(rand.NewPCG(7, 5))
	for range 1500 {
		k, m, last := someFit(r), someMail(r), api.Last{Seq: 5, Uid: 7}
		is := search.Holds(k, m, last)
		if search.Check(not(k)) == api.OK && search.Holds(not(k), m, last) == is {
			t.Errorf("KeyNot of %.300s holds likewise", shown(k))
		}
		other := turned(r, k)
		if search.Check(other) != api.OK || search.Holds(other, m, last) != is {
			t.Errorf("%.300s in another order", shown(k))
		}
		words, _ := search.Print(k)
		if back, e := search.Read([]api.Word{list(list(words...))}, 0); e != api.OK || search.Holds(back, m, last) != is {
			t.Errorf("%.300s in brackets", shown(k))
		}
		for _, one := range k.Kids {
			if holds := search.Holds(one, m, last); k.Kind == api.KeyAnd && is && !holds || k.Kind == api.KeyOr && holds && !is {
				t.Errorf("%.300s and its keys", shown(k))
			}
		}
	}
}
