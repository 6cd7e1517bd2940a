package letter

import (
	"strings"

	"postbag/octet"
)

// Base is a subject's base, and whether it was an answer or was sent on.
func Base(subject string) (string, bool) {
	t, marked := oneBlanks(Words(subject)), false
	cut := func(rest string, is bool) bool {
		if is {
			t = rest
		}
		return is
	}
	mark := func(is bool) bool {
		marked = marked || is
		return is
	}
	rules := []func() bool{
		func() bool { return cut(strings.CutSuffix(t, " ")) },
		func() bool { return mark(cut(cutTail(t, "(fwd)"))) },
		func() bool { return cut(strings.CutPrefix(t, " ")) },
		func() bool { return mark(cut(cutAnswer(t))) },
		func() bool { return cut(cutBlobs(t)) },
		func() bool { return mark(cut(cutSentOn(t))) },
	}
again:
	for {
		for _, rule := range rules {
			if rule() {
				continue again
			}
		}
		return t, marked
	}
}

// oneBlanks makes each longest run of space one blank.
func oneBlanks(text string) string {
	var out strings.Builder
	for i := range len(text) {
		switch {
		case !has(spaces, text[i]):
			out.WriteByte(text[i])
		case i == 0 || !has(spaces, text[i-1]):
			out.WriteByte(' ')
		}
	}
	return out.String()
}

// cutHead cuts off what a text begins with, in any case.
func cutHead(t, head string) (string, bool) {
	if len(t) >= len(head) && octet.Same(t[:len(head)], head) {
		return t[len(head):], true
	}
	return t, false
}

// cutTail cuts off what a text ends with, in any case.
func cutTail(t, tail string) (string, bool) {
	n := len(t) - len(tail)
	if n >= 0 && octet.Same(t[n:], tail) {
		return t[:n], true
	}
	return t, false
}

// cutBlob cuts off a blob, with the blanks behind it.
func cutBlob(t string) (string, bool) {
	inside, is := strings.CutPrefix(t, "[")
	if !is {
		return t, false
	}
	n := strings.IndexAny(inside, "[]")
	if n < 0 || inside[n] == '[' {
		return t, false
	}
	return strings.TrimLeft(inside[n+1:], " "), true
}

// cutBlobs cuts off blobs as long as something is left.
func cutBlobs(t string) (string, bool) {
	// Where the rules ahead had nothing for a text, they have nothing for it without its blobs: all go at once, else those behind would be looked through again for each.
	some := false
	for {
		rest, is := cutBlob(t)
		if !is || rest == "" {
			return t, some
		}
		t, some = rest, true
	}
}

// cutAnswer cuts off blobs and the sign of an answer, or of a text that was sent on, behind them.
func cutAnswer(t string) (string, bool) {
	rest, is := cutBlob(t)
	for is {
		rest, is = cutBlob(rest)
	}
	rest, is = cutVerb(rest)
	if !is {
		return t, false
	}
	rest, _ = cutBlob(strings.TrimLeft(rest, " "))
	return strings.CutPrefix(rest, ":")
}

// cutVerb cuts off re, fwd or fw: the longer one first, since the other one begins it.
func cutVerb(t string) (string, bool) {
	for _, verb := range []string{"re", "fwd", "fw"} {
		if rest, is := cutHead(t, verb); is {
			return rest, true
		}
	}
	return t, false
}

// cutSentOn cuts off the brackets around a text that was sent on.
func cutSentOn(t string) (string, bool) {
	inside, is := cutHead(t, "[fwd:")
	if !is {
		return t, false
	}
	return strings.CutSuffix(inside, "]")
}
