package play_test

import (
	"fmt"
	"math/rand/v2"
	"slices"
	"strings"
	"testing"

	"postbag/api"
	"postbag/play"
)

func wantPrinted(t *testing.T, rules api.Rules, steps []api.Step, want string) {
	t.Helper()
	if text, code := play.Print(rules, steps); text != want || code != api.OK {
		t.Errorf("P20.2: %.300s:\n %s, %d\nnot\n %s", fmt.Sprintf("%+v", steps), inShort(text), code, inShort(want))
	}
}

func wantUnprinted(t *testing.T, what string, rules api.Rules, steps []api.Step, want api.Errno) {
	t.Helper()
	if text, code := play.Print(rules, steps); text != "" || code != want {
		t.Errorf("P20.2: %s: %s, %d, not %d", what, inShort(text), code, want)
	}
}

// eachKind are steps of all kinds.
func eachKind() []api.Step {
	return []api.Step{open(1), bytes(2, "x"), lines(3, "x"), cut(4), plan(), plan(stopAt(1, 2, 3)), start(), check()}
}

// eachNumber leads to all numbers of some rules.
func eachNumber(r *api.Rules) []*int {
	return []*int{&r.Quota, &r.Validity, &r.Uid, &r.Number, &r.Every, &r.Now.Year, &r.Now.Month, &r.Now.Day, &r.Now.Hour, &r.Now.Minute, &r.Now.Second, &r.Now.Zone}
}

// P20.2: the rules' line, and one line a step.
func TestPrint(t *testing.T) {
	wantPrinted(t, someRules(), nil, head)
	wantPrinted(t, someRules(), []api.Step{}, head)
	wantPrinted(t, api.Rules{}, nil, `rules user "" pass "" quota 0 validity 0 uid 0 number 0 every 0 now 0 0 0 0 0 0 0`+"\n")
	wantPrinted(t, api.Rules{User: "a b\r\n", Pass: "\x00\"", Quota: 1, Validity: 2, Uid: 3, Number: 4, Every: 5, Now: api.Moment{Year: 6, Month: 7, Day: 8, Hour: 9, Minute: 10, Second: 11, Zone: -12}}, nil,
		`rules user "a b\r\n" pass "\x00\"" quota 1 validity 2 uid 3 number 4 every 5 now 6 7 8 9 10 11 -12`+"\n")
	for line, x := range eachLine() {
		if line == `bytes 1 "x\r\n"` {
			line = `line 1 "x"`
		}
		wantPrinted(t, someRules(), []api.Step{x}, head+line+"\n")
		wantPrinted(t, someRules(), []api.Step{start(), x, x}, head+"start\n"+line+"\n"+line+"\n")
	}
	wantPrinted(t, someRules(), []api.Step{{Kind: api.StepPlan, Stops: []api.Stop{}}, {Kind: api.StepStart, Stops: []api.Stop{}}}, head+"plan\nstart\n")
	many := slices.Repeat([]api.Step{check()}, api.MaxSteps)
	wantPrinted(t, someRules(), many, head+strings.Repeat("check\n", api.MaxSteps))
}

// P20.2: Bytes that end in CR LF, in one of both alone, or that are CR LF alone; in the midst they count for nothing.
func TestPrintLine(t *testing.T) {
	for text, want := range map[string]string{
		"": `bytes 1 ""`, "a": `bytes 1 "a"`, "a\r": `bytes 1 "a\r"`, "a\n": `bytes 1 "a\n"`, "a\n\r": `bytes 1 "a\n\r"`, "\r": `bytes 1 "\r"`, "\n": `bytes 1 "\n"`, "\r\nx": `bytes 1 "\r\nx"`, "\r\n\n": `bytes 1 "\r\n\n"`, "\r\n\r": `bytes 1 "\r\n\r"`,
		"\r\n": `line 1 ""`, "a\r\n": `line 1 "a"`, "a\r\n\r\n": `line 1 "a\r\n"`, "\r\n\r\n": `line 1 "\r\n"`, "a\r\nb\r\n": `line 1 "a\r\nb"`, "\r\r\n": `line 1 "\r"`, "\n\r\n": `line 1 "\n"`, " \r\n": `line 1 " "`,
		`a\r\n`: `bytes 1 "a\\r\\n"`, `"`: `bytes 1 "\""`, `\"` + "\r\n": `line 1 "\\\""`, "\xff\xfe\r\n": `line 1 "\xff\xfe"`, "é": `bytes 1 "\xc3\xa9"`, "# x": `bytes 1 "# x"`, " ": `bytes 1 " "`,
	} {
		wantPrinted(t, someRules(), []api.Step{bytes(1, text)}, head+want+"\n")
	}
}

// P20.2: all 256 bytes in a quoted word.
func TestPrintBytes(t *testing.T) {
	all := ""
	for c := range 256 {
		b := string([]byte{byte(c)})
		want := fmt.Sprintf(`\x%02x`, c)
		switch {
		case b == "\r":
			want = `\r`
		case b == "\n":
			want = `\n`
		case b == `"` || b == `\`:
			want = `\` + b
		case c >= 32 && c < 127:
			want = b
		}
		all += b
		wantPrinted(t, someRules(), []api.Step{bytes(1, b), bytes(2, "a"+b+b+"4\r\n")}, head+`bytes 1 "`+want+"\"\nline 2 \"a"+want+want+"4\"\n")
		rules := someRules()
		rules.User, rules.Pass = b, b+"x"
		wantPrinted(t, rules, nil, strings.Replace(strings.Replace(head, `"p"`, `"`+want+`x"`, 1), `"u"`, `"`+want+`"`, 1))
	}
	wantPrinted(t, someRules(), []api.Step{bytes(1, all)}, head+"bytes 1 "+slowQuoted(all)+"\n")
}

// P20.2: a number that no line has, in every place where one can stand.
func TestPrintNumbers(t *testing.T) {
	for _, n := range []int{0, 1, -1, 10, -10, api.MaxNumber - 1, api.MaxNumber, -api.MaxNumber} {
		wantPrinted(t, someRules(), []api.Step{open(n), bytes(n, "x"), cut(n), plan(stopAt(n, 0, 0), stopAt(0, n, 0), stopAt(0, 0, n))},
			head+fmt.Sprintf("open %d\nbytes %d \"x\"\ncut %d\nplan %d 0 0 0 %d 0 0 0 %d\n", n, n, n, n, n, n))
		for i := range eachNumber(&api.Rules{}) {
			rules := someRules()
			*eachNumber(&rules)[i] = n
			wantPrinted(t, rules, nil, slowText(rules, nil))
		}
	}
	for _, n := range []int{api.MaxNumber + 1, -api.MaxNumber - 1, 1 << 33, -1 << 33, least, least + 1, most} {
		for _, x := range []api.Step{open(n), bytes(n, ""), lines(n, ""), cut(n), plan(stopAt(n, 0, 0)), plan(stopAt(0, n, 0)), plan(stopAt(0, 0, n)), plan(stopAt(1, 1, 1), stopAt(0, 0, n)), start(), check(), plan()} {
			if x.Conn == 0 && len(x.Stops) == 0 { // it has no number
				x.Conn = n
			}
			what := fmt.Sprintf("%+v", x)
			wantUnprinted(t, what, someRules(), []api.Step{x}, api.ErrScript)
			wantUnprinted(t, what, someRules(), []api.Step{start(), x, start()}, api.ErrScript)
		}
		eight := slices.Repeat([]api.Stop{stopAt(1, 1, 1)}, 8)
		eight[7].Rest = n
		wantUnprinted(t, "the last of 24 numbers", someRules(), []api.Step{plan(eight...)}, api.ErrScript)
		for i := range eachNumber(&api.Rules{}) {
			rules := someRules()
			*eachNumber(&rules)[i] = n
			wantUnprinted(t, fmt.Sprintf("%+v", rules), rules, nil, api.ErrScript)
			wantUnprinted(t, fmt.Sprintf("%+v", rules), rules, eachKind(), api.ErrScript)
		}
	}
}

// P20.2: a Kind that there is not.
func TestPrintKinds(t *testing.T) {
	for _, kind := range []int{least, -7, -1, 0, 7, 8, 9, 100, 1 << 32, most} {
		for _, x := range eachKind() {
			x.Kind = kind
			wantUnprinted(t, fmt.Sprintf("%+v", x), someRules(), []api.Step{x}, api.ErrScript)
		}
		wantUnprinted(t, "a kind alone", someRules(), []api.Step{{Kind: kind}}, api.ErrScript)
		wantUnprinted(t, "the last of many", someRules(), append(slices.Repeat(eachKind(), 9), api.Step{Kind: kind}), api.ErrScript)
	}
}

// P20.2: of each kind what its line does not have.
func TestPrintTooMuch(t *testing.T) {
	hasConn := map[int]bool{api.StepOpen: true, api.StepBytes: true, api.StepCut: true}
	for _, x := range eachKind() {
		try := func(y api.Step, may bool) {
			t.Helper()
			if may {
				wantPrinted(t, someRules(), []api.Step{y}, slowText(someRules(), []api.Step{y}))
			} else {
				wantUnprinted(t, fmt.Sprintf("%+v", y), someRules(), []api.Step{y}, api.ErrScript)
			}
		}
		for _, conn := range []int{0, 1, -1, 4, api.MaxNumber} {
			y := x
			y.Conn = conn
			try(y, conn == 0 || hasConn[x.Kind])
		}
		for _, text := range []string{"", "x", "\r\n", "\x00"} {
			y := x
			y.Bytes = text
			try(y, text == "" || x.Kind == api.StepBytes)
		}
		for count := range 20 {
			y := x
			y.Stops = make([]api.Stop, count)
			try(y, count == 0 || count <= 8 && x.Kind == api.StepPlan)
		}
	}
}

// P20.2: two reasons at once, in their order: too many steps, what no script gives, a text that is too long.
func TestPrintTwoReasons(t *testing.T) {
	long := bytes(1, strings.Repeat("x", api.MaxScript+1))
	tooGreat := someRules()
	tooGreat.Now.Zone = api.MaxNumber + 1
	for _, bad := range []api.Step{{}, {Kind: 7}, open(api.MaxNumber + 1), {Kind: api.StepStart, Conn: 1}, plan(make([]api.Stop, 9)...), {Kind: api.StepOpen, Bytes: "x"}} {
		wantUnprinted(t, "too many, bad ones", someRules(), slices.Repeat([]api.Step{bad}, api.MaxSteps+1), api.ErrLong)
		wantUnprinted(t, "too many, bad ones and rules", tooGreat, slices.Repeat([]api.Step{bad, long}, api.MaxSteps), api.ErrLong)
		wantUnprinted(t, "as many as may be, bad ones", someRules(), slices.Repeat([]api.Step{bad}, api.MaxSteps), api.ErrScript)
		wantUnprinted(t, "a bad one ahead of a long one", someRules(), []api.Step{bad, long}, api.ErrScript)
		wantUnprinted(t, "a bad one behind a long one", someRules(), []api.Step{long, bad}, api.ErrScript)
	}
	wantUnprinted(t, "bad rules and a long step", tooGreat, []api.Step{long}, api.ErrScript)
	tooGreat.User = long.Bytes
	wantUnprinted(t, "bad rules with a long user", tooGreat, nil, api.ErrScript)
	wantUnprinted(t, "a long step that is too great", someRules(), []api.Step{bytes(api.MaxNumber+1, long.Bytes)}, api.ErrScript)
	wantUnprinted(t, "too many and too long", someRules(), slices.Repeat([]api.Step{bytes(1, strings.Repeat("x", 5000))}, api.MaxSteps+1), api.ErrLong)
	wantUnprinted(t, "too long", someRules(), []api.Step{long}, api.ErrLong)
	wantUnprinted(t, "one too many", someRules(), slices.Repeat([]api.Step{start()}, api.MaxSteps+1), api.ErrLong)
	wantUnprinted(t, "many too many", someRules(), make([]api.Step, 1<<20), api.ErrLong)
}

// P20.2: a text of just MaxScript bytes and one more: by a long text of each kind, and by many steps.
func TestPrintMaxScript(t *testing.T) {
	hold := func(what string, room int, build func(text string) (api.Rules, []api.Step)) {
		t.Helper()
		for _, piece := range []string{"x", "\xff", "\"", "\r"} {
			each := len(slowQuoted(piece)) - 2
			text := strings.Repeat(piece, room/each) + strings.Repeat("x", room%each)
			rules, steps := build(text)
			if got := printed(t, rules, steps...); len(got) != api.MaxScript || got != slowText(rules, steps) {
				t.Errorf("P20.2: %s of %q: %d bytes", what, piece, len(got))
			}
			for _, more := range []string{"x", piece, strings.Repeat(piece, 70000), strings.Repeat(piece, 900000)} {
				rules, steps = build("x" + text + more[1:])
				wantUnprinted(t, fmt.Sprint(what, len(more)), rules, steps, api.ErrLong)
			}
		}
	}
	empty := func(steps ...api.Step) int { return api.MaxScript - len(slowText(someRules(), steps)) }
	hold("bytes", empty(bytes(1, "")), func(text string) (api.Rules, []api.Step) { return someRules(), []api.Step{bytes(1, text)} })
	hold("line", empty(lines(1, "")), func(text string) (api.Rules, []api.Step) { return someRules(), []api.Step{lines(1, text)} })
	hold("the first", empty(bytes(1, ""), start()), func(text string) (api.Rules, []api.Step) { return someRules(), []api.Step{bytes(1, text), start()} })
	hold("the user", empty(check())+1, func(text string) (api.Rules, []api.Step) {
		rules := someRules()
		rules.User = text
		return rules, []api.Step{check()}
	})
	hold("the password", empty()+1, func(text string) (api.Rules, []api.Step) {
		rules := someRules()
		rules.Pass = text
		return rules, nil
	})
	many := slices.Repeat([]api.Step{bytes(-12, strings.Repeat("\r\nx", 120))}, api.MaxSteps-1)
	hold("many", empty(append(many, lines(1, ""))...), func(text string) (api.Rules, []api.Step) { return someRules(), append(many, lines(1, text)) })
}

// P20.2: a very long text ends soon.
func TestPrintVeryLong(t *testing.T) {
	long := strings.Repeat("\x00", 1<<26)
	all := slices.Repeat([]api.Step{bytes(1, long), lines(1, long)}, 200)
	wantUnprinted(t, "very long", someRules(), all, api.ErrLong)
	wantUnprinted(t, "very long, and a bad one", someRules(), append(all[:399:399], api.Step{}), api.ErrScript)
	wantUnprinted(t, "very long, and of no kind that has it", someRules(), []api.Step{{Kind: api.StepOpen, Conn: 1, Bytes: long}}, api.ErrScript)
	wantUnprinted(t, "a very long user", api.Rules{User: long, Pass: long}, nil, api.ErrLong)
	wantUnprinted(t, "very many stops", someRules(), []api.Step{plan(make([]api.Stop, 1<<22)...)}, api.ErrScript)
}

// P20.2: the chapter's examples.
func TestPrintExamples(t *testing.T) {
	wantPrinted(t, api.Rules{}, []api.Step{bytes(1, "a\r")}, `rules user "" pass "" quota 0 validity 0 uid 0 number 0 every 0 now 0 0 0 0 0 0 0`+"\nbytes 1 \"a\\r\"\n")
	wantUnprinted(t, "an open with bytes", api.Rules{}, []api.Step{{Kind: api.StepOpen, Bytes: "x"}}, api.ErrScript)
}

// P20.2: random rules and steps, as a writer of another make writes them.
func TestPrintRandom(t *testing.T) {
	r := rand.New(rand.NewPCG(20, 2))
	for range 3000 {
		rules, steps := anyRules(r), anySteps(r, r.IntN(12))
		want := slowText(rules, steps)
		wantPrinted(t, rules, steps, want)
		if len(steps) > 0 {
			x := &steps[r.IntN(len(steps))]
			switch n := oneOf(r, api.MaxNumber+1, -api.MaxNumber-1); r.IntN(4) {
			case 0:
				x.Kind = oneOf(r, 0, 7, -1)
			case 1:
				x.Conn = n
			case 2:
				*eachNumber(&rules)[r.IntN(12)] = n
			default:
				x.Stops = append(slices.Clone(x.Stops), make([]api.Stop, 9)...)
			}
			wantUnprinted(t, fmt.Sprintf("%+v %+v", rules, steps), rules, steps, api.ErrScript)
		}
	}
}

// P20.3: Parse of what Print writes is the same rules and steps.
func TestThereAndBack(t *testing.T) {
	r := rand.New(rand.NewPCG(20, 3))
	for i := range 4000 {
		rules, steps := anyRules(r), anySteps(r, r.IntN(12))
		if i%100 == 0 {
			steps = anySteps(r, api.MaxSteps-r.IntN(2))
		}
		if got := parse(printed(t, rules, steps...)); !alike(got, parsed{rules: rules, steps: steps}) {
			t.Fatalf("P20.3: %+v\nis read as\n%+v", steps, got)
		}
	}
	for c := range 1 << 16 {
		text := string([]byte{byte(c >> 8), byte(c)})
		steps := []api.Step{bytes(1, text), lines(2, text)}
		rules := api.Rules{User: text, Pass: text + text}
		if c%64 == 0 || strings.ContainsAny(text, "\r\n\"\\x") {
			if got := parse(printed(t, rules, steps...)); !alike(got, parsed{rules: rules, steps: steps}) {
				t.Fatalf("P20.3: %q is read as %+v", text, got)
			}
		}
	}
}

// P20.3: what Parse reads Print writes, and Parse of that is the same; the text that Print writes is the only one.
func TestBackAndThere(t *testing.T) {
	r := rand.New(rand.NewPCG(20, 33))
	count := 0
	for range 12000 {
		was := parse(someScript(r))
		if was.code != api.OK {
			continue
		}
		count++
		text := printed(t, was.rules, was.steps...)
		if got := parse(text); !alike(got, was) || text != slowText(was.rules, was.steps) {
			t.Fatalf("P20.3: %+v\nis written as\n%s\nand read as\n%+v", was, text, got)
		}
	}
	if count < 3000 {
		t.Errorf("%d scripts say too little", count)
	}
	for line := range eachLine() {
		was := parse(head + line)
		if got := parse(printed(t, was.rules, was.steps...)); was.code != api.OK || !alike(got, was) {
			t.Errorf("P20.3: %s: %+v, not %+v", line, got, was)
		}
	}
}

// P20.3: what Parse reads may be too long to be written.
func TestTooLongToWrite(t *testing.T) {
	was := parse(head + `bytes 1 "` + strings.Repeat("\xff", 65600) + `"`)
	if was.code != api.OK || len(was.steps) != 1 {
		t.Fatal(was.code)
	}
	wantUnprinted(t, "many bytes from 128 on", was.rules, was.steps, api.ErrLong)
}
