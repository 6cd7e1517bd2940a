package play_test

import (
	"fmt"
	"strings"
	"testing"

	"postbag/api"
	"postbag/play"
)

func wantRun(t *testing.T, script string) {
	t.Helper()
	if got, want := play.Run(script), slowRun(parse(script)); got != want {
		t.Errorf("P20.5: %s:\n%s\nnot\n%s", inShort(script), got, want)
	}
}

func wantTranscript(t *testing.T, script, want string) {
	t.Helper()
	if got := play.Run(script); got != want {
		t.Errorf("P20.5: %s:\n%s\nnot\n%s", inShort(script), got, want)
	}
	wantRun(t, script)
}

// P20.5: a script that Parse refuses.
func TestRunBroken(t *testing.T) {
	for script, f := range brokenScripts() {
		wantTranscript(t, script, fmt.Sprintf("script error %d at %d\n", f.Code, f.Step))
	}
	wantTranscript(t, "x", "script error 200 at 1\n")
	wantTranscript(t, head+strings.Repeat("start\n", 401), "script error 2 at 402\n")
}

// P20.5: rules that server.New refuses; what Parse says stands ahead of it.
func TestRunRefused(t *testing.T) {
	for _, list := range refusedRules() {
		for _, rules := range list {
			text := printed(t, rules)
			wantTranscript(t, text, "rules refused\n")
			wantTranscript(t, text+"open 1\ncheck\n", "rules refused\n")
			wantTranscript(t, text+"open 1\nopen", "script error 200 at 3\n")
		}
	}
}

// P20.5: each step's line as Print writes it, however it came.
func TestRunLines(t *testing.T) {
	lines := "\n# x\n open\t1 # y\nbytes 1 \"\\x61\\x22\\x0A\"\n\nline 1 \"\\x0D#\"\r\nbytes 1 \"z\\r\\n\"\nplan   3 -1 0\nplan\ncut 2\ncheck\nstart\ncut 1"
	wantTranscript(t, head+lines, `0: open 1
  to 1 "`+hello+`\r\n"
1: bytes 1 "a\"\n"
2: line 1 "\r#"
  to 1 "* BAD no line\r\n"
3: line 1 "z"
  to 1 "z BAD no command\r\n"
4: plan 3 -1 0
5: plan
6: cut 2 refused 180
7: check
8: start refused 181
9: cut 1
store 1
  "INBOX" 1 1 1 0
`)
}

// P20.5: no steps; a store that begins with other numbers.
func TestRunNothing(t *testing.T) {
	wantTranscript(t, head, "store 1\n  \"INBOX\" 1 1 1 0\n")
	wantTranscript(t, strings.Replace(head, "validity 1 uid 1 number 2", "validity 77 uid 900 number 4294967294", 1), "store 4294967293\n  \"INBOX\" 77 900 4294967293 0\n")
}

// P20.5: several mailboxes, by their names, with flags as they are, and names of any letters.
func TestRunStore(t *testing.T) {
	commands := []string{
		"a LOGIN u p", "b CREATE z", "c CREATE &AOk-/x", `d CREATE "a b"`, "e CREATE Z", `f APPEND inbox (\Seen Work \Answered) {1+}`, "x", "g APPEND inbox {1+}", "y", `h APPEND "a b" (work k2) {1+}`, "z", `i APPEND z (\Draft) {1+}`, "z",
		"j SELECT inbox", `k STORE 2 +FLAGS (\Flagged)`, "l COPY 1 z", `m APPEND z () {1+}`, "z", `n CREATE "q\"\\q"`, "o CREATE &AAEAAg-",
	}
	script := head + "open 1\n"
	for _, c := range commands {
		script += "line 1 " + slowQuoted(c) + "\n"
	}
	got := play.Run(script)
	_, end, _ := strings.Cut(got, "\nstore ")
	if want := `13
  "INBOX" 1 3 10 2 [1 6 \Answered \Seen Work] [2 10 \Flagged]
  "Z" 6 1 5 0
  "a b" 5 2 8 1 [1 8 k2 work]
  "q\"\\q" 7 1 13 0
  "z" 2 4 12 3 [1 9 \Draft] [2 11 \Answered \Seen Work] [3 12]
  "\xc3\xa9" 3 1 3 0
  "\xc3\xa9/x" 4 1 3 0
`; end != want {
		t.Errorf("P20.5: %s", got)
	}
	wantRun(t, script)
}

// P20.5: what is sent is cut behind each byte 10: literals too, with any bytes.
func TestRunSent(t *testing.T) {
	message := "Subject: \"hi\"\r\n\r\na\nb\rc\\\n\n\xff\x01"
	script := printed(t, someRules(), open(3), lines(3, "a LOGIN u p", "b APPEND inbox "+literal(message), "c SELECT inbox"), lines(3, "d FETCH 1 (UID BODY.PEEK[])"), bytes(3, "e NOOP\r\nf LOGOUT\r\ng NOOP\r\n"), lines(3, "h NOOP"))
	got := play.Run(script)
	_, end, _ := strings.Cut(got, "\n2: ")
	want := `line 3 "d FETCH 1 (UID BODY.PEEK[])"
  to 3 "* 1 FETCH (UID 1 BODY[] {27}\r\n"
  to 3 "Subject: \"hi\"\r\n"
  to 3 "\r\n"
  to 3 "a\n"
  to 3 "b\rc\\\n"
  to 3 "\n"
  to 3 "\xff\x01)\r\n"
  to 3 "d OK FETCH done\r\n"
3: line 3 "e NOOP\r\nf LOGOUT\r\ng NOOP"
  to 3 "e OK NOOP done\r\n"
  to 3 "* BYE until next time\r\n"
  to 3 "f OK LOGOUT done\r\n"
  closed 3
4: line 3 "h NOOP" refused 180
store 2
  "INBOX" 1 2 2 1 [1 2]
`
	if end != want {
		t.Errorf("P20.5: %s\nnot\n%s", end, want)
	}
	wantRun(t, script)
}

// P20.5: stops: all that are open are closed, by their numbers; a machine that is down at the end has no store to tell.
func TestRunStops(t *testing.T) {
	begin := head + "open 2\nopen 1\nline 2 \"a LOGIN u p\"\nplan 1 3 3\nline 2 \"b CREATE q\"\n"
	_, end, _ := strings.Cut(play.Run(begin), "\n3: ")
	want := "plan 1 3 3\n4: line 2 \"b CREATE q\"\n  closed 1\n  closed 2\nstopped\n"
	if end != want {
		t.Errorf("P20.5: %s", end)
	}
	_, end, _ = strings.Cut(play.Run(begin+"open 1\nstart\ncheck\nopen 3\nstart"), "\n3: ")
	if want := strings.TrimSuffix(want, "stopped\n") + `5: open 1 refused 181
6: start
7: check
8: open 3
  to 3 "` + hello + `\r\n"
9: start refused 181
store 1
  "INBOX" 1 1 1 0
`; end != want {
		t.Errorf("P20.5: %s\nnot\n%s", end, want)
	}
	for _, more := range []string{"", "start", "start\nstart", "plan", "plan\nstart", "plan 1 0 0\nstart", "plan 1 0 0 1 0 0\nstart\nstart\nopen 1"} {
		wantRun(t, begin+more)
	}
}

// P20.5: the chapter's example, and that of a small script.
func TestRunExamples(t *testing.T) {
	wantTranscript(t, "x", "script error 200 at 1\n")
	wantTranscript(t, "", "script error 200 at 0\n")
	wantTranscript(t, head+"open 1\nline 1 \"a3 LIST \\\"\\\" *\"\nline 1 \"a LOGIN u p\"\nline 1 \"a3 LIST \\\"\\\" *\"\n", `0: open 1
  to 1 "`+hello+`\r\n"
1: line 1 "a3 LIST \"\" *"
  to 1 "a3 BAD not now\r\n"
2: line 1 "a LOGIN u p"
  to 1 "a OK LOGIN done\r\n"
3: line 1 "a3 LIST \"\" *"
  to 1 "* LIST (\\HasNoChildren) \"/\" INBOX\r\n"
  to 1 "a3 OK LIST done\r\n"
store 1
  "INBOX" 1 1 1 0
`)
}

// P20.5: a step's line may be longer than a script.
func TestRunLongLine(t *testing.T) {
	text := strings.Repeat("\xff", 80000)
	got := play.Run(head + "bytes 1 \"" + text + "\"\n")
	if want := "0: bytes 1 " + slowQuoted(text) + " refused 2\nstore 1\n  \"INBOX\" 1 1 1 0\n"; got != want || len(got) <= api.MaxScript {
		t.Errorf("P20.5: %s", inShort(got))
	}
}
