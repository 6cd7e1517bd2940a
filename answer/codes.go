package answer

import "postbag/api"

// argument is how one of a code's is written and read.
type argument struct {
	write func(*page, api.Value)
	read  func(*cursor) api.Value
}

type code struct {
	name   string
	args   []argument
	isMore bool // its only argument stands there once or more
}

func codes() [api.CodeIssued + 1]code {
	number := argument{(*page).numberValue, (*cursor).numberValue}
	set := argument{(*page).setValue, (*cursor).wordValue}
	atom := argument{(*page).atomValue, (*cursor).wordValue}
	atoms := argument{(*page).atomsValue, (*cursor).wordsValue}
	signs := argument{(*page).signsValue, (*cursor).wordsValue}
	return [...]code{
		api.CodeAlready:     {name: "ALREADYEXISTS"},
		api.CodeNone:        {name: "NONEXISTENT"},
		api.CodeCannot:      {name: "CANNOT"},
		api.CodeQuota:       {name: "OVERQUOTA"},
		api.CodeLimit:       {name: "LIMIT"},
		api.CodeTry:         {name: "TRYCREATE"},
		api.CodeReadOnly:    {name: "READ-ONLY"},
		api.CodeReadWrite:   {name: "READ-WRITE"},
		api.CodeNext:        {name: "UIDNEXT", args: []argument{number}},
		api.CodeValidity:    {name: "UIDVALIDITY", args: []argument{number}},
		api.CodeUnseen:      {name: "UNSEEN", args: []argument{number}},
		api.CodePermanent:   {name: "PERMANENTFLAGS", args: []argument{signs}},
		api.CodeModseq:      {name: "HIGHESTMODSEQ", args: []argument{number}},
		api.CodeAppend:      {name: "APPENDUID", args: []argument{number, set}},
		api.CodeCopy:        {name: "COPYUID", args: []argument{number, set, set}},
		api.CodeModified:    {name: "MODIFIED", args: []argument{set}},
		api.CodeClosed:      {name: "CLOSED"},
		api.CodeCapability:  {name: "CAPABILITY", args: []argument{atom}, isMore: true},
		api.CodeAuth:        {name: "AUTHENTICATIONFAILED"},
		api.CodeInUse:       {name: "INUSE"},
		api.CodeHasChildren: {name: "HASCHILDREN"},
		api.CodeCharset:     {name: "BADCHARSET", args: []argument{atoms}},
		api.CodeIssued:      {name: "EXPUNGEISSUED"},
	}
}

// takes tells whether so many arguments may stand there.
func (k code) takes(n int) bool { return n == len(k.args) || k.isMore && n > 0 }

// argument is the one that has so many ahead of it.
func (k code) argument(i int) argument {
	if k.isMore {
		i = 0
	}
	must(i < len(k.args))
	return k.args[i]
}

// code writes a code and the blank behind it; nothing, if there is none.
func (p *page) code(a *api.Answer) {
	must(0 <= a.Code && a.Code <= api.CodeIssued)
	k := codes()[a.Code]
	must(k.takes(len(a.Args)))
	if a.Code == 0 {
		return
	}
	p.add("[" + k.name)
	for i, arg := range a.Args {
		p.add(" ")
		k.argument(i).write(p, arg)
	}
	p.add("] ")
}

// code takes one, if it stands there.
func (c *cursor) code(a *api.Answer) {
	if !c.passes("[") {
		return
	}
	name := c.word()
	for n, k := range codes() {
		if name == k.name {
			a.Code = n
		}
	}
	k := codes()[a.Code]
	for c.passes(" ") {
		a.Args = append(a.Args, k.argument(len(a.Args)).read(c))
	}
	c.pass("] ")
}
