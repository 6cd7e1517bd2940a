package search

import (
	"postbag/api"
	"postbag/octet"
)

// Read reads the keys that stand in words from a place on, to the end.
func Read(words []api.Word, at int) (k api.Key, e api.Errno) {
	switch {
	case len(words) > api.MaxWords:
		return api.Key{}, api.ErrLong
	case at < 0, at > len(words):
		return api.Key{}, api.ErrArg
	}
	defer func() {
		if recover() != nil {
			k, e = api.Key{}, api.ErrKey
		}
	}()
	r := reader{table: byName(), rest: words[at:]}
	k = r.keys()
	if r.isFull() {
		return api.Key{}, api.ErrKeys
	}
	if e = Check(k); e != api.OK {
		return api.Key{}, e
	}
	return k, api.OK
}

// reader goes through words; it gives up by panic where they are no keys.
type reader struct {
	table names
	rest  []api.Word // of the line, or of the list that is being read
	count int        // of keys so far, all but KeyAnd
}

func giveUp() { panic("no search key") }

// isFull tells whether the tree is too great already: then the words must be keys all the same, but none of them is kept.
func (r *reader) isFull() bool { return r.count > api.MaxKeys }

// keys reads all that is left: one key, or the KeyAnd of several.
func (r *reader) keys() api.Key {
	kids := []api.Key{r.key()}
	for len(r.rest) > 0 {
		if k := r.key(); !r.isFull() {
			kids = append(kids, k)
		}
	}
	if len(kids) == 1 {
		return kids[0]
	}
	return api.Key{Kind: api.KeyAnd, Kids: kids}
}

func (r *reader) key() api.Key {
	switch {
	case r.isFull():
		r.pass()
		return api.Key{}
	case r.atList():
		return r.list()
	}
	r.count++
	k, kids := r.plain()
	for range kids {
		k.Kids = append(k.Kids, r.key())
	}
	return k
}

// pass goes over one key: by a loop, since a row of NOT and OR may be longer than a stack is deep.
func (r *reader) pass() {
	for due := 1; due > 0; due-- {
		if r.atList() {
			r.list()
			continue
		}
		_, kids := r.plain()
		due += kids
	}
}

func (r *reader) atList() bool { return r.next().Kind == api.WordList }

func (r *reader) list() api.Key {
	inside := r.take().Kids
	outside := r.rest
	r.rest = inside
	k := r.keys()
	r.rest = outside
	return k
}

// plain reads a key but for those below it, and tells how many these are.
func (r *reader) plain() (api.Key, int) {
	found := r.rule()
	k := api.Key{Kind: found.kind, Text: found.flag}
	for _, arg := range found.args {
		if !arg.take(&k, r.take()) {
			giveUp()
		}
	}
	return k, found.kids
}

// rule takes a name, and is what that stands for; a word that is no name is left, since it may be a set.
func (r *reader) rule() rule {
	if w := r.next(); isAtom(w) {
		if found, is := r.table[octet.Lower(w.Text)]; is {
			r.take()
			return found
		}
	}
	return setRule()
}

func (r *reader) next() api.Word {
	if len(r.rest) == 0 || r.rest[0].Glued {
		giveUp()
	}
	return r.rest[0]
}

func (r *reader) take() api.Word {
	w := r.next()
	r.rest = r.rest[1:]
	return w
}
