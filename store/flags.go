package store

import (
	"slices"
	"strings"

	"postbag/octet"
)

// The flags of the system, a bit each.
const (
	answered = 1 << iota
	deleted
	draft
	flagged
	seen

	allSystem = 1<<iota - 1
)

// systemFlags stand in the order of their one form.
var systemFlags = [...]struct {
	name string
	bit  int
}{
	{`\Answered`, answered}, {`\Deleted`, deleted}, {`\Draft`, draft}, {`\Flagged`, flagged}, {`\Seen`, seen},
}

// flagSet is flags in their one form. Its words are never written into: sets may share them.
type flagSet struct {
	system int
	words  []string // keywords, rising by their small letters
}

// setOf is the set of flags that stand in their one form.
func setOf(form []string) flagSet {
	var f flagSet
	for _, flag := range form {
		if bit := bitOf(flag); bit != 0 {
			f.system |= bit
		} else {
			f.words = append(f.words, flag)
		}
	}
	return f
}

// bitOf is 0, if a flag is none of the system.
func bitOf(flag string) int {
	for _, f := range systemFlags {
		if flag == f.name {
			return f.bit
		}
	}
	return 0
}

func (f flagSet) list() []string {
	var out []string
	for _, s := range systemFlags {
		if f.system&s.bit != 0 {
			out = append(out, s.name)
		}
	}
	return append(out, f.words...)
}

func (f flagSet) equal(g flagSet) bool {
	return f.system == g.system && slices.Equal(f.words, g.words)
}

// turned is what a set becomes where others are given: these in its place (0), put to it (1), taken from it (-1).
func (f flagSet) turned(mode int, given flagSet) flagSet {
	switch mode {
	case 1:
		return flagSet{f.system | given.system, united(f.words, given.words)}
	case -1:
		return flagSet{f.system &^ given.system, without(f.words, given.words)}
	}
	return given
}

// spelled writes each keyword that is known as it is written there.
func (f flagSet) spelled(known []string) flagSet {
	words := slices.Clone(f.words)
	for i, word := range words {
		if at := indexWord(known, word); at >= 0 {
			words[i] = known[at]
		}
	}
	return flagSet{f.system, words}
}

// indexWord is the place of a keyword in any case; -1, if it is not there.
func indexWord(words []string, word string) int {
	return slices.IndexFunc(words, func(w string) bool { return octet.Same(w, word) })
}

func without(words, others []string) []string {
	return slices.DeleteFunc(slices.Clone(words), func(w string) bool { return indexWord(others, w) >= 0 })
}

// united is all words of some lists, rising by their small letters; of those that differ in case alone the first one.
func united(lists ...[]string) []string {
	words := slices.Concat(lists...)
	slices.SortStableFunc(words, func(a, b string) int {
		return strings.Compare(octet.Lower(a), octet.Lower(b))
	})
	return slices.CompactFunc(words, octet.Same)
}
