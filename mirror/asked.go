package mirror

import (
	"slices"

	"postbag/api"
	"postbag/span"
)

const star = 0

// asked is what must be known of a command until it is answered.
type asked struct {
	tag    string
	verb   int
	uid    bool
	silent bool        // it is a STORE that is told nothing of what it turns
	set    []api.Range // of such a one
}

func asking(c api.Command) asked {
	out := asked{tag: c.Tag, verb: c.Verb, uid: c.Uid}
	if c.Verb == api.VerbStore && c.Silent {
		out.silent, out.set = true, append([]api.Range(nil), c.Set...)
	}
	return out
}

// opens tells whether it brings a new picture.
func (c asked) opens() bool { return c.verb == api.VerbSelect || c.verb == api.VerbExamine }

// leaves tells whether there is no picture once it is done.
func (c asked) leaves() bool {
	return c.verb == api.VerbClose || c.verb == api.VerbUnselect || c.verb == api.VerbLogout
}

// keepsNumbers tells whether it speaks by numbers, so that no message may be told gone while it is at hand.
func (c asked) keepsNumbers() bool {
	switch c.verb {
	case api.VerbFetch, api.VerbStore, api.VerbSearch, api.VerbSort, api.VerbThread:
		return !c.uid
	}
	return false
}

// mayMean tells whether its set may have meant a row.
func (c asked) mayMean(number int, r row) bool {
	isStar := func(piece api.Range) bool { return piece.From == star || piece.To == star }
	switch {
	case slices.ContainsFunc(c.set, isStar):
		return true // the client cannot know which one the greatest was
	case !c.uid:
		return span.Has(c.set, number, api.MaxNumber)
	}
	return r.uid == 0 || span.Has(c.set, r.uid, api.MaxNumber)
}
