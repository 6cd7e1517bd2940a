package command

import "postbag/api"

// argument is one of a verb's: how it is read out of words, and how it is written.
type argument struct {
	read  func(*row, *api.Command)
	print func(*page, *api.Command)
}

// arguments are a verb's in their order; what is left behind the last one is zero.
type arguments [4]argument

type verb struct {
	args arguments
}

// titleOf is what a command is called: its verb's name, with UID ahead, where that was there.
func titleOf(c *api.Command) string {
	name := nameOf(verbNames(), c.Verb)
	if c.Uid {
		return uid + " " + name
	}
	return name
}

func argumentsOf(c *api.Command) arguments {
	found, is := verbs()[titleOf(c)]
	if !is {
		giveUp()
	}
	return found.args
}

func verbs() map[string]verb {
	name, set := text(nameField), argument{readSet, printSet}
	keys, inCharset := argument{readKeys, printKeys}, argument{readCharset, printCharset}
	nothing, named := verb{}, verb{arguments{name}}
	opened := verb{arguments{name, {readCondstore, printCondstore}}}
	listed := verb{arguments{text(refField), {readPattern, printPattern}}}
	searched := verb{arguments{{readReturns, printReturns}, {readAnyCharset, printAnyCharset}, keys}}
	fetched := verb{arguments{set, {readItems, printItems}, {readChanged, printChanged}}}
	stored := verb{arguments{set, {readUnchanged, printUnchanged}, {readMode, printMode}, {readFlags, printFlags}}}
	copied := verb{arguments{set, name}}
	sorted := verb{arguments{{readBy, printBy}, inCharset, keys}}
	threaded := verb{arguments{{readAlgorithm, printAlgorithm}, inCharset, keys}}
	return map[string]verb{
		"CAPABILITY": nothing, "NOOP": nothing, "LOGOUT": nothing, "CHECK": nothing, "CLOSE": nothing,
		"UNSELECT": nothing, "EXPUNGE": nothing, "IDLE": nothing, "NAMESPACE": nothing,
		"LOGIN":  {arguments{text(userField), text(passField)}},
		"SELECT": opened, "EXAMINE": opened,
		"CREATE": named, "DELETE": named, "SUBSCRIBE": named, "UNSUBSCRIBE": named,
		"RENAME": {arguments{name, text(toField)}},
		"LIST":   listed, "LSUB": listed,
		"STATUS": {arguments{name, {readStatus, printStatus}}},
		"APPEND": {arguments{name, {readFirstFlags, printFirstFlags}, {readDate, printDate}, {readBody, printBody}}},
		"SEARCH": searched, "UID SEARCH": searched,
		"FETCH": fetched, "UID FETCH": fetched,
		"STORE": stored, "UID STORE": stored,
		"COPY": copied, "UID COPY": copied, "MOVE": copied, "UID MOVE": copied,
		"SORT": sorted, "UID SORT": sorted,
		"THREAD": threaded, "UID THREAD": threaded,
		"ENABLE":      {arguments{{readNames, printNames}}},
		"UID EXPUNGE": {arguments{set}},
	}
}
