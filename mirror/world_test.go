package mirror_test

import (
	"fmt"
	"math/rand/v2"
	"strings"
	"testing"

	"postbag/answer"
	"postbag/api"
	"postbag/command"
	"postbag/mirror"
	"postbag/server"
)

// world is a server with clients, each of which has a mirror that knows nothing but what its client asks and is sent.
type world struct {
	*server.Server
	t       *testing.T
	r       *rand.Rand
	talkers [api.MaxConns + 1]*talker
	isOpen  [api.MaxConns + 1]bool // as the server has it
	tag     int
	seen    []seen // what some mirror knew at some time
	counts  map[string]int
	log     []string
}

type seen struct {
	sight  api.MirrorSight
	isTrue bool // the flags were so as of its modseq
}

// talker is a client. It writes lines ahead of the answers to those that it has written: the mirror is asked when a line is written, the server when it comes.
type talker struct {
	*mirror.Mirror
	reader  *answer.Reader
	written []line

	// What the test knows of the mailbox that is selected, and the mirror need not.
	told  map[int]string   // by uid: the flags that were told last
	was   map[int][]string // by uid: what Resync remembered
	doubt bool             // flags that were remembered need not be so
	back  *comeback        // nil: no Resync is under way
}

// comeback is a Resync whose two commands are not both answered.
type comeback struct {
	isTrue  bool  // what was remembered was so as of its modseq, and so is all else that is known
	isAlone bool  // nothing else of its client's is answered in between
	half    bool  // the first one was done
	uids    []int // flags of these were known
}

// line is what a client writes, and the command that it is, if it is one.
type line struct {
	text  string
	asked api.Command
	of    string // "uids" and "changes": of a Resync
}

func newWorld(t *testing.T, r *rand.Rand) *world {
	t.Helper()
	rules := api.Rules{User: "u", Pass: "p", Quota: oneOf(r, api.MaxDisk, api.MaxDisk, 40000), Validity: oneOf(r, 1, 700), Uid: oneOf(r, 1, 1, 50), Number: oneOf(r, 2, 900), Every: oneOf(r, 0, 7), Now: api.Moment{Year: 2026, Month: 2, Day: 1}}
	s, err := server.New(rules)
	if err != nil {
		t.Fatal(err)
	}
	x := &world{Server: s, t: t, r: r, counts: map[string]int{}}
	x.open(1)
	for _, text := range []string{"LOGIN u p", "CREATE a", "CREATE b/c"} {
		x.write(1, text)
	}
	for range 3 + r.IntN(12) {
		x.write(1, "APPEND "+oneOf(r, "inbox", "inbox", "a")+" "+flagText(r)+" {1+}\r\nx")
	}
	for len(x.talkers[1].written) > 0 {
		x.come(1)
	}
	return x
}

func flagText(r *rand.Rand) string {
	var out []string
	for range r.IntN(4) {
		out = append(out, oneOf(r, `\Seen`, `\Seen`, `\Deleted`, `\Draft`, `\Flagged`, "k", "K", "Work", fmt.Sprint("w", r.IntN(4))))
	}
	return "(" + strings.Join(out, " ") + ")"
}

func setText(r *rand.Rand) string {
	end := func() string { return oneOf(r, "*", "1", "2", "3", fmt.Sprint(1+r.IntN(9)), fmt.Sprint(1+r.IntN(60))) }
	out := oneOf(r, "1:*", "1:*", end(), end()+":"+end())
	for r.IntN(3) == 0 {
		out += "," + oneOf(r, end(), end()+":"+end())
	}
	return out
}

// lineText is what a client may write, without its tag.
func lineText(r *rand.Rand) string {
	uid, box := oneOf(r, "", "UID "), oneOf(r, "inbox", "inbox", "a", "b", "b/c", "nowhere", "x//y")
	switch r.IntN(40) {
	case 0, 1, 2, 3, 4, 5:
		return uid + "FETCH " + setText(r) + " " + oneOf(r, "FLAGS", "(UID)", "(UID FLAGS)", "(FLAGS UID)", "(MODSEQ FLAGS)", "MODSEQ", "BODY[]", "(UID BODY.PEEK[])", "FAST", "(RFC822 FLAGS)") + oneOf(r, "", "", fmt.Sprintf(" (CHANGEDSINCE %d)", r.IntN(60)))
	case 6, 7, 8, 9, 10, 11, 12:
		return uid + "STORE " + setText(r) + oneOf(r, " ", " ", fmt.Sprintf(" (UNCHANGEDSINCE %d) ", r.IntN(60))) + oneOf(r, "", "+", "+", "-") + "FLAGS" + oneOf(r, "", ".SILENT") + " " + flagText(r)
	case 13, 14, 15:
		return oneOf(r, "EXPUNGE", "UID EXPUNGE "+setText(r))
	case 16, 17:
		return uid + oneOf(r, "COPY ", "MOVE ") + setText(r) + " " + box
	case 18, 19, 20, 21:
		return "APPEND " + box + " " + flagText(r) + oneOf(r, " {1+}\r\nx", " {1}\r\nx")
	case 22, 23, 24, 25, 26:
		return "NOOP"
	case 27:
		return uid + oneOf(r, "SEARCH ALL", "SEARCH MODSEQ 5", "SORT (DATE) UTF-8 ALL", "THREAD REFERENCES UTF-8 SEEN", "SEARCH RETURN (COUNT) UNSEEN")
	case 28, 29:
		return oneOf(r, "SELECT ", "EXAMINE ") + box + oneOf(r, "", " (CONDSTORE)")
	case 30:
		return oneOf(r, "CLOSE", "UNSELECT", "CHECK")
	case 31:
		return oneOf(r, "CREATE "+box, "DELETE "+box, "RENAME inbox q"+fmt.Sprint(r.IntN(30)), "RENAME "+box+" z"+fmt.Sprint(r.IntN(30)))
	case 32:
		return oneOf(r, "STATUS "+box+" (MESSAGES HIGHESTMODSEQ)", `LIST "" *`, "CAPABILITY", "ENABLE CONDSTORE", "NAMESPACE", "LOGIN u p", "LOGIN x y", "LOGOUT")
	case 33:
		return oneOf(r, "FROB", "FETCH", "NOOP x", "STORE 1 FLAGS (\\Recent)", "SELECT {99999}", "STORE 1 FLAGS.SILENT ({1+}\r\nx)")
	}
	return "IDLE"
}

func (x *world) open(k int) {
	x.t.Helper()
	x.talkers[k] = &talker{Mirror: mirror.New(), reader: answer.New()}
	x.do(api.Step{Kind: api.StepOpen, Conn: k}, k, line{})
}

// write lets a client write a line with a tag of its own: the mirror is asked, if it is a command.
func (x *world) write(k int, text string) { x.writeOf(k, text, "") }

func (x *world) writeOf(k int, text, of string) {
	x.t.Helper()
	x.tag++
	l := line{text: fmt.Sprintf("t%d %s\r\n", x.tag, text), of: of}
	r := command.New()
	r.Feed(l.text)
	for in, is := r.Next(); is; in, is = r.Next() {
		if in.Kind == api.InCommand {
			l.asked = in.Command
		}
	}
	c := x.talkers[k]
	if l.asked.Verb != 0 {
		if e := c.Ask(l.asked); e != api.OK {
			x.t.Fatalf("P19.1: %q: %d", l.text, e)
		}
	}
	c.written = append(c.written, l)
}

// sight is how a connection stands; a zero one, if it is not open.
func (x *world) sight(k int) api.SessionSight {
	if !x.isOpen[k] {
		return api.SessionSight{}
	}
	at := 0
	for _, isOpen := range x.isOpen[:k] {
		if isOpen {
			at++
		}
	}
	return x.Sessions()[at]
}

// come lets the next line that a client has written come to the server.
func (x *world) come(k int) {
	x.t.Helper()
	c := x.talkers[k]
	l := c.written[0]
	c.written = c.written[1:]
	x.do(api.Step{Kind: api.StepBytes, Conn: k, Bytes: l.text}, k, l)
}

// do plays a step, which is a line of a connection or none, and lets all hear what they are sent.
func (x *world) do(step api.Step, by int, l line) {
	x.t.Helper()
	var before [api.MaxConns + 1]api.SessionSight
	for k := range before {
		before[k] = x.sight(k)
	}
	sent, e := x.Do(step)
	if e != api.OK {
		x.t.Fatalf("%+v: %d", step, e)
	}
	if step.Kind == api.StepOpen || step.Kind == api.StepCut {
		x.isOpen[step.Conn] = step.Kind == api.StepOpen
	}
	for _, w := range sent {
		x.isOpen[w.Conn] = !w.Closed
		if w.Closed && w.Text == "" { // the machine has stopped
			x.talkers[w.Conn] = nil
		}
	}
	for _, w := range sent {
		if x.talkers[w.Conn] == nil {
			continue
		}
		own := line{}
		if w.Conn == by {
			own = l
		}
		x.hear(w, own, before[w.Conn])
		x.log = append(x.log, fmt.Sprintf("%d %q %s", w.Conn, w.Text, shown(x.t, x.talkers[w.Conn].Sight())))
		if w.Closed {
			if s := x.talkers[w.Conn].Sight(); s.Selected {
				x.t.Fatalf("P19.8: %d is over, but %s", w.Conn, shown(x.t, s))
			}
			x.talkers[w.Conn] = nil
		}
	}
}
