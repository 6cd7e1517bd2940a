package tool

import (
	"strconv"
	"strings"

	"postbag/api"
	"postbag/play"
)

// What stands ahead of a script's user and behind it, if all else in its rules is zero.
const (
	aheadOfUser = "rules user "
	behindUser  = " pass \"\" quota 0 validity 0 uid 0 number 0 every 0 now 0 0 0 0 0 0 0\n"
)

// lines joins pieces, with a line's end behind each.
func lines(pieces ...string) string {
	var out strings.Builder
	for _, p := range pieces {
		out.WriteString(p)
		out.WriteByte('\n')
	}
	return out.String()
}

// numbers writes numbers with a blank ahead of each.
func numbers(list ...int) string {
	var out []byte
	for _, n := range list {
		out = strconv.AppendInt(append(out, ' '), int64(n), 10)
	}
	return string(out)
}

// quoted is a text as a quoted word of a script: a script's user may be any text.
func quoted(text string) string {
	script, _ := play.Print(api.Rules{User: text}, nil) // no name and no message is too long for a script
	return strings.TrimSuffix(strings.TrimPrefix(script, aheadOfUser), behindUser)
}

func bracketed(flags []string) string { return "(" + strings.Join(flags, " ") + ")" }
