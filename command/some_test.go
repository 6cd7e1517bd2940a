package command_test

import (
	"fmt"
	"math/rand/v2"
	"reflect"
	"strconv"
	"strings"
	"testing"

	"postbag/api"
	"postbag/command"
)

const crlf = "\r\n"

// shown is a command as a text, nil and empty lists alike.
func shown(c api.Command) string { return fmt.Sprintf("%+v", c) }

func oneOf[T any](r *rand.Rand, list ...T) T { return list[r.IntN(len(list))] }

func times(n int, s string) string { return strings.Repeat(s, n) }

// row is n words with a blank between two.
func row(n int, word string) string { return strings.TrimSuffix(times(n, word+" "), " ") }

func repeated(n int, s string) []string {
	list := make([]string, n)
	for i := range list {
		list[i] = s
	}
	return list
}

// readOk is what Read tells of a line that it must take.
func readOk(t *testing.T, line string, literals ...string) api.Command {
	t.Helper()
	c, e := command.Read(line, literals)
	if e != api.OK {
		t.Fatalf("%.100q: %d", line, e)
	}
	return c
}

func printOk(t *testing.T, c api.Command) string {
	t.Helper()
	form, e := command.Print(c)
	if e != api.OK {
		t.Fatalf("Print(%.200s): %d", shown(c), e)
	}
	return form
}

// told is all that a reader tells now, each input in short.
func told(r *command.Reader) string {
	var list []string
	for in, is := r.Next(); is; in, is = r.Next() {
		list = append(list, short(in))
	}
	return strings.Join(list, " ")
}

// short is an input in short; what its kind may not have stands behind it.
func short(in api.Input) string {
	var s string
	rest := in
	switch in.Kind {
	case api.InCommand:
		s = fmt.Sprintf("%s:%d", in.Command.Tag, in.Command.Verb)
		rest.Command = api.Command{}
	case api.InBad:
		s = fmt.Sprintf("bad:%s:%d", in.Tag, in.Why)
		rest.Tag, rest.Why = "", 0
	case api.InContinue:
		s = "+"
	case api.InDone:
		s = "done"
	default:
		return fmt.Sprintf("no input %+v", in)
	}
	rest.Kind = 0
	if !reflect.ValueOf(rest).IsZero() {
		s += fmt.Sprintf(" and %+v", rest)
	}
	return s
}

// cut is a text in pieces of any sizes up to a greatest one, now and then an empty piece.
func cut(r *rand.Rand, s string, most int) []string {
	var pieces []string
	for s != "" {
		n := min(len(s), r.IntN(most+1))
		pieces = append(pieces, s[:n])
		s = s[n:]
	}
	return pieces
}

// parted is a form's line and its literals: in a form nothing but an announcement ends with a brace.
func parted(t *testing.T, form string) (string, []string) {
	t.Helper()
	var line string
	var literals []string
	for {
		piece, rest, is := strings.Cut(form, crlf)
		if !is {
			t.Fatalf("no line's end: %.100q", form)
		}
		line += piece
		if !strings.HasSuffix(piece, "}") {
			if rest != "" {
				t.Fatalf("behind its end: %.100q", rest)
			}
			return line, literals
		}
		var n int
		announcement := piece[strings.LastIndexByte(piece, '{'):]
		if _, err := fmt.Sscanf(announcement, "{%d+}", &n); err != nil || announcement != "{"+strconv.Itoa(n)+"+}" {
			t.Fatalf("no announcement: %.100q", piece)
		}
		literals = append(literals, rest[:n])
		form = rest[n:]
	}
}

// refused holds Read to ErrCommand.
func refused(t *testing.T, lines ...string) {
	t.Helper()
	refusedWith(t, nil, lines...)
}

func refusedWith(t *testing.T, literals []string, lines ...string) {
	t.Helper()
	for _, line := range lines {
		readsNot(t, api.ErrCommand, line, literals...)
	}
}

func readsNot(t *testing.T, want api.Errno, line string, literals ...string) {
	t.Helper()
	if c, e := command.Read(line, literals); e != want || shown(c) != shown(api.Command{}) {
		t.Errorf("Read(%.100q, %.50q): %s, %d, not %d", line, literals, shown(c), e, want)
	}
}
