package server_test

import (
	"fmt"
	"math/rand/v2"
	"slices"
	"strings"
	"testing"

	"postbag/api"
	"postbag/command"
)

// scripted is a random script whose steps are not refused, with bytes that end in whole lines; stops: with plans, checkpoints and starts.
func scripted(t *testing.T, r *rand.Rand, rules api.Rules, steps int, stops bool) []api.Step {
	t.Helper()
	m := build(t, rules)
	var out []api.Step
	isOpen := map[int]bool{}
	tag := 0
	add := func(x api.Step) {
		t.Helper()
		out = append(out, x)
		for _, w := range m.do(x) {
			isOpen[w.Conn] = !w.Closed
		}
		if x.Kind == api.StepCut {
			isOpen[x.Conn] = false
		}
	}
	for len(out) < steps {
		conn := 1 + r.IntN(api.MaxConns)
		n := r.IntN(60)
		switch {
		case m.Down():
			add(start())
		case stops && n == 0:
			add(plan(someStops(r)...))
		case stops && n == 1:
			add(check())
		case n == 2 && isOpen[conn]:
			add(cut(conn))
		case !isOpen[conn]:
			add(open(conn))
			tag++
			add(lines(conn, fmt.Sprintf("t%d LOGIN u p", tag), fmt.Sprintf("u%d %s", tag, oneOf(r, "SELECT inbox", "SELECT a", "NOOP"))))
		default:
			text := oneOf(r, "", "", "", "DONE\r\n", "nonsense\r\n")
			for range 1 + r.IntN(4) {
				tag++
				text += fmt.Sprintf("t%d %s\r\n", tag, someLine(r))
			}
			add(bytes(conn, text))
		}
	}
	return out
}

// sentBy are all words of a script, in their order, and how the machine stands then.
func sentBy(t *testing.T, rules api.Rules, script []api.Step) ([]api.Sent, looks) {
	t.Helper()
	m := build(t, rules)
	var out []api.Sent
	for _, x := range script {
		out = append(out, m.do(x)...)
	}
	return out, m.look()
}

// inPieces cuts every step with bytes into several ones, right behind each other.
func inPieces(script []api.Step, cut func(left int) int) []api.Step {
	var out []api.Step
	for _, x := range script {
		for x.Kind == api.StepBytes {
			n := cut(len(x.Bytes))
			if n >= len(x.Bytes) {
				break
			}
			out = append(out, bytes(x.Conn, x.Bytes[:n]))
			x.Bytes = x.Bytes[n:]
		}
		out = append(out, x)
	}
	return out
}

// sentUpToStops lets bytes be refused: what stands behind a stop or a LOGOUT is lost in one step, and refused in several ones.
func sentUpToStops(t *testing.T, rules api.Rules, script []api.Step) ([]api.Sent, looks) {
	t.Helper()
	m := build(t, rules)
	var out []api.Sent
	for _, x := range script {
		sent, code := m.Do(x)
		if code != api.OK && x.Kind != api.StepBytes {
			t.Fatalf("%+v: %d", x, code)
		}
		out = append(out, sent...)
	}
	return out, m.look()
}

// P18.13: the same bytes at once, in pieces and byte by byte.
func TestPieces(t *testing.T) {
	t.Parallel()
	r := rand.New(rand.NewPCG(18, 13))
	for range 60 {
		rules := someRandomRules(r)
		script := scripted(t, r, rules, 60, true)
		sent, look := sentBy(t, rules, script)
		for what, cut := range map[string]func(left int) int{
			"byte by byte": func(int) int { return 1 },
			"in pieces":    func(int) int { return 1 + r.IntN(40) },
			"in two":       func(left int) int { return 1 + left/2 },
			"with nothing": func(left int) int { return oneOf(r, 0, left, 3) },
		} {
			got, behind := sentUpToStops(t, rules, inPieces(script, cut))
			if !slices.Equal(got, sent) || fmt.Sprint(behind) != fmt.Sprint(look) {
				at := 0
				for at < min(len(got), len(sent)) && got[at] == sent[at] {
					at++
				}
				t.Fatalf("P18.13: %s: word %d: %q, not %q", what, at, shown(got[at:min(len(got), at+2)]), shown(sent[at:min(len(sent), at+2)]))
			}
		}
	}
}

// input is the bytes of one thing that a connection's reader tells (go-aheads apart), or another step of the connection.
type input struct {
	api.Step
}

// inputs cuts a script at the ends of what the readers tell.
func inputs(script []api.Step) []input {
	var out []input
	readers := map[int]*command.Reader{}
	ahead := map[int]string{}
	for _, x := range script {
		if x.Kind == api.StepOpen {
			readers[x.Conn], ahead[x.Conn] = command.New(), ""
		}
		if x.Kind != api.StepBytes {
			out = append(out, input{x})
			continue
		}
		for i := range len(x.Bytes) {
			ahead[x.Conn] += x.Bytes[i : i+1]
			readers[x.Conn].Feed(x.Bytes[i : i+1])
			for in, is := readers[x.Conn].Next(); is; in, is = readers[x.Conn].Next() {
				if in.Kind == api.InCommand || in.Kind == api.InBad || in.Kind == api.InDone {
					out = append(out, input{bytes(x.Conn, ahead[x.Conn])})
					ahead[x.Conn] = ""
				}
				readers[x.Conn].Idle(in.Command.Verb == api.VerbIdle)
			}
		}
	}
	return out
}

// recut is another script with the same inputs in the same order: what is ahead of an input's last byte may come at any time behind the connection's last input; inputs of one connection right behind each other may come at once.
func recut(r *rand.Rand, list []input) []api.Step {
	var out []api.Step
	came := map[int]int{} // by connection: how many bytes of its next input have come
	next := func(from, conn int) (input, bool) {
		for _, in := range list[from:] {
			if in.Conn == conn && in.Kind != api.StepPlan {
				return in, in.Kind == api.StepBytes
			}
		}
		return input{}, false
	}
	isOpen := map[int]bool{}
	for k, in := range list {
		for range r.IntN(3) {
			conn := 1 + r.IntN(api.MaxConns)
			if other, is := next(k, conn); is && isOpen[conn] {
				n := r.IntN(len(other.Bytes) - came[conn])
				out = append(out, bytes(conn, other.Bytes[came[conn]:came[conn]+n]))
				came[conn] += n
			}
		}
		x := in.Step
		if x.Kind == api.StepBytes {
			x.Bytes = x.Bytes[came[x.Conn]:]
			came[x.Conn] = 0
			if last := len(out) - 1; last >= 0 && out[last].Kind == api.StepBytes && out[last].Conn == x.Conn && len(out[last].Bytes)+len(x.Bytes) <= api.MaxPiece && r.IntN(2) == 0 {
				out[last].Bytes += x.Bytes
				continue
			}
		}
		isOpen[x.Conn] = x.Kind == api.StepBytes || x.Kind == api.StepOpen
		out = append(out, x)
	}
	return out
}

// each is what each connection is sent, over all that have its number.
func each(sent []api.Sent) [api.MaxConns + 1]string {
	var out [api.MaxConns + 1]string
	for _, w := range sent {
		out[w.Conn] += w.Text
		if w.Closed {
			out[w.Conn] += "!"
		}
	}
	return out
}

// P0.2: bytes that are cut otherwise, but so that all that the readers tell comes in the same order.
func TestOtherPieces(t *testing.T) {
	t.Parallel()
	r := rand.New(rand.NewPCG(18, 2))
	for range 60 {
		rules := someRules()
		rules.Quota, rules.Every = oneOf(r, api.MaxDisk, 12000), oneOf(r, 0, 3)
		list := withoutLogout(inputs(scripted(t, r, rules, 60, false)))
		plain := make([]api.Step, len(list))
		for k, in := range list {
			plain[k] = in.Step
		}
		sent, look := sentBy(t, rules, plain)
		for range 4 {
			got, behind := sentBy(t, rules, recut(r, list))
			if each(got) != each(sent) || behind.frozen != look.frozen {
				t.Fatalf("P0.2: %q\nnot %q", each(got), each(sent))
			}
		}
	}
}

// withoutLogout leaves out what ends a connection from its own side: else bytes that come ahead of their time would meet a connection that is not open, or another one.
func withoutLogout(list []input) []input {
	out := slices.DeleteFunc(list, func(in input) bool { return strings.Contains(in.Bytes, "LOGOUT") })
	isOpen := map[int]bool{}
	return slices.DeleteFunc(out, func(in input) bool {
		was := isOpen[in.Conn]
		switch in.Kind {
		case api.StepOpen:
			isOpen[in.Conn] = true
			return was
		case api.StepCut:
			isOpen[in.Conn] = false
			return !was
		}
		return false
	})
}
