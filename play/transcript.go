package play

import (
	"strconv"
	"strings"

	"postbag/api"
	"postbag/server"
	"postbag/store"
)

// transcript is what Run writes, while a script is played.
type transcript struct {
	strings.Builder
	steps int // that have been played
}

const indent = "  "

// step writes what a step is, and what it did.
func (t *transcript) step(x api.Step, sent []api.Sent, code api.Errno) {
	t.WriteString(strconv.Itoa(t.steps) + ": " + write(stepWords(x)...))
	if code != api.OK {
		t.WriteString(" refused " + strconv.Itoa(int(code)))
	}
	t.WriteString("\n")
	for _, w := range sent {
		t.sent(w)
	}
	t.steps++
}

func (t *transcript) sent(w api.Sent) {
	for line := range strings.Lines(w.Text) {
		t.WriteString(indent + write(name("to"), number(w.Conn), quoted(line)) + "\n")
	}
	if w.Closed {
		t.WriteString(indent + write(name("closed"), number(w.Conn)) + "\n")
	}
}

// end writes how the machine is behind the last step.
func (t *transcript) end(machine *server.Server) {
	if machine.Down() {
		t.WriteString("stopped\n")
		return
	}
	s := machine.Store()
	t.WriteString(write(name("store"), number(s.Last())) + "\n")
	for _, box := range s.Boxes() {
		t.box(s, box)
	}
}

func (t *transcript) box(s *store.Store, box api.BoxSight) {
	t.WriteString(indent + write(quoted(box.Name), number(box.Validity), number(box.Next), number(box.Highest), number(box.Count)))
	mails, _ := s.Mails(box.Validity) // it is there
	for _, m := range mails {
		t.WriteString(" [" + strconv.Itoa(m.Uid) + " " + strconv.Itoa(m.Modseq))
		for _, flag := range m.Flags {
			t.WriteString(" " + flag)
		}
		t.WriteString("]")
	}
	t.WriteString("\n")
}
