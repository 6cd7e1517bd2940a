package server_test

import (
	"fmt"
	"reflect"
	"slices"
	"strings"
	"testing"

	"postbag/answer"
	"postbag/api"
	"postbag/event"
	"postbag/frame"
	"postbag/server"
	"postbag/store"
)

const (
	end = api.MaxNumber - 1 // the greatest number of a store

	five = `\Answered \Deleted \Draft \Flagged \Seen`

	hello = "* OK [CAPABILITY IMAP4rev1 LITERAL+ UIDPLUS UNSELECT MOVE IDLE NAMESPACE ENABLE CONDSTORE SORT THREAD=ORDEREDSUBJECT THREAD=REFERENCES ESEARCH] postbag is ready"

	isFull = "NO [OVERQUOTA] the disk is full"
	inUse  = "NO [INUSE] it is in use"
)

var now = api.Moment{Year: 2026, Month: 2, Day: 1, Hour: 10}

func someRules() api.Rules {
	return api.Rules{User: "u", Pass: "p", Quota: 100000, Validity: 1, Uid: 1, Number: 2, Now: now}
}

func open(conn int) api.Step { return api.Step{Kind: api.StepOpen, Conn: conn} }

func cut(conn int) api.Step { return api.Step{Kind: api.StepCut, Conn: conn} }

func bytes(conn int, text string) api.Step {
	return api.Step{Kind: api.StepBytes, Conn: conn, Bytes: text}
}

// lines come from a connection in one step, each with its end.
func lines(conn int, list ...string) api.Step {
	return bytes(conn, strings.Join(list, "\r\n")+"\r\n")
}

func plan(stops ...api.Stop) api.Step { return api.Step{Kind: api.StepPlan, Stops: stops} }

func stopAt(at, part, rest int) api.Stop { return api.Stop{At: at, Part: part, Rest: rest} }

func start() api.Step { return api.Step{Kind: api.StepStart} }

func check() api.Step { return api.Step{Kind: api.StepCheck} }

// literal is a text as a client sends it without waiting.
func literal(text string) string { return fmt.Sprintf("{%d+}\r\n%s", len(text), text) }

// shown are words in short: the connection, a blank, the lines with | between them, and ! where it is over.
func shown(sent []api.Sent) []string {
	var out []string
	for _, w := range sent {
		text := strings.ReplaceAll(strings.TrimSuffix(w.Text, "\r\n"), "\r\n", "|")
		if w.Closed {
			text += "!"
		}
		out = append(out, fmt.Sprint(w.Conn, " ", text))
	}
	return out
}

// machine is a server in a test.
type machine struct {
	*server.Server
	t *testing.T
}

func build(t *testing.T, rules api.Rules) *machine {
	t.Helper()
	s, err := server.New(rules)
	if err != nil || s == nil {
		t.Fatalf("%+v: %v", rules, err)
	}
	return &machine{s, t}
}

// entered is a machine with so many connections, logged in.
func entered(t *testing.T, conns int, rules api.Rules) *machine {
	t.Helper()
	m := build(t, rules)
	for conn := 1; conn <= conns; conn++ {
		m.enter(conn)
	}
	return m
}

func (m *machine) enter(conn int) {
	m.t.Helper()
	m.want(open(conn), fmt.Sprint(conn, " ", hello))
	m.want(lines(conn, "l LOGIN u p"), fmt.Sprint(conn, " l OK LOGIN done"))
}

// do plays a step that is not refused; every word has bytes or is a last one (P18.2).
func (m *machine) do(x api.Step) []api.Sent {
	m.t.Helper()
	sent, code := m.Do(x)
	if code != api.OK {
		m.t.Fatalf("%.200s: %d", fmt.Sprintf("%+v", x), code)
	}
	for _, w := range sent {
		if w.Text == "" && !w.Closed || w.Conn < 1 || w.Conn > api.MaxConns {
			m.t.Errorf("%.200s: the word %+v", fmt.Sprintf("%+v", x), w)
		}
	}
	return sent
}

// want holds what a step sends.
func (m *machine) want(x api.Step, want ...string) {
	m.t.Helper()
	if got := shown(m.do(x)); !slices.Equal(got, want) {
		m.t.Errorf("%.300s:\n sent %q\n not  %q", fmt.Sprintf("%+v", x), got, want)
	}
}

// done plays lines of a connection that are answered OK, or begin to idle.
func (m *machine) done(conn int, list ...string) {
	m.t.Helper()
	for _, line := range list {
		tag, _, _ := strings.Cut(line, " ")
		isDone := false
		for _, w := range m.do(lines(conn, line)) {
			isDone = isDone || w.Conn == conn && (strings.Contains("\r\n"+w.Text, "\r\n"+tag+" OK ") || strings.HasPrefix(w.Text, "+ idling"))
		}
		if !isDone {
			m.t.Fatalf("%.300q is not done", line)
		}
	}
}

// refused holds that a step is refused, and that nothing is otherwise behind it.
func (m *machine) refused(x api.Step, want api.Errno) {
	m.t.Helper()
	was := m.look()
	sent, code := m.Do(x)
	if len(sent) != 0 || code != want {
		m.t.Errorf("%.200s: %q %d, not %d", fmt.Sprintf("%+v", x), shown(sent), code, want)
	}
	if is := m.look(); !reflect.DeepEqual(was, is) {
		m.t.Errorf("%.200s: refused, but\n %.500s\nis\n %.500s", fmt.Sprintf("%+v", x), fmt.Sprint(was), fmt.Sprint(is))
	}
}

// looks is all that can be seen of a machine.
type looks struct {
	down     bool
	frozen   string
	sessions []api.SessionSight
	names    []string
	files    []string
}

func (m *machine) look() looks {
	m.t.Helper()
	names, files := m.Files()
	s := m.Store()
	if m.Down() != (s == nil) || len(names) != len(files) || !slices.IsSorted(names) {
		m.t.Errorf("P18.9: down %v, a store %v, files %q", m.Down(), s != nil, names)
	}
	frozen := ""
	if s != nil {
		frozen = s.Freeze()
	}
	return looks{m.Down(), frozen, m.Sessions(), names, files}
}

// file is the bytes of a file, none if it is not there.
func (m *machine) file(name string) string {
	names, files := m.Files()
	if i := slices.Index(names, name); i >= 0 {
		return files[i]
	}
	return ""
}

func (m *machine) states() []int {
	var out []int
	for _, s := range m.Sessions() {
		out = append(out, s.State)
	}
	return out
}

func (m *machine) wantStates(want ...int) {
	m.t.Helper()
	if got := m.states(); !slices.Equal(got, want) {
		m.t.Errorf("P18.9: the states %v, not %v", got, want)
	}
}

func (m *machine) wantLast(want int) {
	m.t.Helper()
	if m.Down() || m.Store().Last() != want {
		m.t.Errorf("down %v, the last event %d, not %d", m.Down(), m.Store().Last(), want)
	}
}

// boxes are the names of all mailboxes.
func (m *machine) boxes() []string {
	var out []string
	for _, b := range m.Store().Boxes() {
		out = append(out, b.Name)
	}
	return out
}

func (m *machine) wantBoxes(want ...string) {
	m.t.Helper()
	if m.Down() {
		m.t.Fatal("it has stopped")
	}
	if got := m.boxes(); !slices.Equal(got, want) {
		m.t.Errorf("mailboxes %q, not %q", got, want)
	}
}

// onDisk is the store that the files hold: a checkpoint, and the events that go on from it (P0.9).
func onDisk(t *testing.T, rules api.Rules, names, files []string) *store.Store {
	t.Helper()
	s, _ := store.New(rules.Validity, rules.Uid, rules.Number)
	if i := slices.Index(names, "checkpoint"); i >= 0 {
		var code api.Errno = api.ErrThaw
		for place, f := range frame.Scan(files[i]) {
			if place == len(files[i]) && f.Kind == api.FrameStore {
				s, code = store.Thaw(f.Body)
			}
		}
		if code != api.OK {
			t.Fatalf("P0.9: the checkpoint: %d", code)
		}
	}
	if i := slices.Index(names, "journal"); i >= 0 {
		for _, f := range frame.Scan(files[i]) {
			e, code := event.Decode(f.Body)
			if code != api.OK || e.Number != f.Number || e.Number > s.Last() && s.Apply(e) != api.OK {
				t.Fatalf("P0.9: the journal's frame %d: %d", f.Number, code)
			}
		}
	}
	return s
}

// selects is what SELECT of INBOX tells in a machine of someRules, where there are no keywords.
func selects(conn int, tag string, count, recent, next, modseq int, unseen ...int) string {
	out := fmt.Sprintf("%d * FLAGS (%s)|* %d EXISTS|* %d RECENT|", conn, five, count, recent)
	for _, n := range unseen {
		out += fmt.Sprintf("* OK [UNSEEN %d] the first unseen one|", n)
	}
	return out + fmt.Sprintf(`* OK [PERMANENTFLAGS (%s \*)] these can be kept|* OK [UIDNEXT %d] the next uid|* OK [UIDVALIDITY 1] the validity|* OK [HIGHESTMODSEQ %d] the highest modseq|%s OK [READ-WRITE] SELECT done`, five, next, modseq, tag)
}

func newServer(rules api.Rules) (*server.Server, error) { return server.New(rules) }

// answers are what a step sends, read again by chapter 15's reader: nothing but answers (P0.10).
func (m *machine) answers(x api.Step) []api.Answer {
	m.t.Helper()
	var out []api.Answer
	for _, w := range m.do(x) {
		out = append(out, readAll(m.t, w.Text)...)
	}
	return out
}

// readAll reads a word: it is answers, one behind the other, and nothing else.
func readAll(t *testing.T, text string) []api.Answer {
	t.Helper()
	reader := answer.New()
	reader.Feed(text)
	var out []api.Answer
	again := ""
	for a, is := reader.Next(); is; a, is = reader.Next() {
		line, code := answer.Print(a)
		if code != api.OK {
			t.Fatalf("P0.10: %q is no answer", a.Text)
		}
		out = append(out, a)
		again += line
	}
	if again != text {
		t.Fatalf("P0.10: %q is read as %q", text, again)
	}
	return out
}
