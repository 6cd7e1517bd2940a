package event

import (
	"slices"
	"strings"

	"postbag/api"
	"postbag/lex"
	"postbag/octet"
)

// The flags of the system, a bit each.
const (
	answered = 1 << iota
	deleted
	draft
	flagged
	seen
)

// systemFlags stand in the order of their one form.
var systemFlags = [...]struct {
	name string
	bit  int
}{
	{`\Answered`, answered}, {`\Deleted`, deleted}, {`\Draft`, draft}, {`\Flagged`, flagged}, {`\Seen`, seen},
}

// Flags puts flags in their one form: an error, if one of them is none.
func Flags(flags []string) ([]string, api.Errno) {
	if len(flags) > api.MaxFlags {
		return nil, api.ErrLong
	}
	system, keywords := parted(flags)
	for _, k := range keywords {
		if !lex.Is(lex.Keyword, k) {
			return nil, api.ErrMark
		}
	}
	// The sort leaves like ones as they came, so that the first spelling is the one that stays.
	slices.SortStableFunc(keywords, func(a, b string) int {
		return strings.Compare(octet.Lower(a), octet.Lower(b))
	})
	return joined(system, slices.CompactFunc(keywords, octet.Same)), api.OK
}

// parted is the bits of the flags of the system, and all that are none of these.
func parted(flags []string) (system int, others []string) {
	for _, f := range flags {
		if bit := bitOf(f); bit != 0 {
			system |= bit
		} else {
			others = append(others, f)
		}
	}
	return system, others
}

// bitOf is 0, if a text is no flag of the system.
func bitOf(flag string) int {
	for _, f := range systemFlags {
		if octet.Same(flag, f.name) {
			return f.bit
		}
	}
	return 0
}

func joined(system int, keywords []string) []string {
	var flags []string
	for _, f := range systemFlags {
		if system&f.bit != 0 {
			flags = append(flags, f.name)
		}
	}
	return append(flags, keywords...)
}

// isForm tells whether flags that a message is to have stand in their one form, with no more keywords than it may have.
func isForm(flags []string) bool {
	form, code := Flags(flags)
	_, keywords := parted(flags)
	return code == api.OK && slices.Equal(form, flags) && len(keywords) <= api.MaxKeywords
}
