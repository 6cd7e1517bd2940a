package search

import "postbag/api"

// Print writes keys as words.
func Print(k api.Key) ([]api.Word, api.Errno) {
	table := byKind()
	if e := table.check(&k); e != api.OK {
		return nil, e
	}
	if k.Kind == api.KeyAnd {
		return table.row(k.Kids), api.OK
	}
	return table.words(&k), api.OK
}

// row is the words of keys side by side.
func (table kinds) row(keys []api.Key) []api.Word {
	var words []api.Word
	for i := range keys {
		words = append(words, table.words(&keys[i])...)
	}
	return words
}

// words writes a key as it stands among others.
func (table kinds) words(k *api.Key) []api.Word {
	if k.Kind == api.KeyAnd {
		return []api.Word{{Kind: api.WordList, Kids: table.row(k.Kids)}}
	}
	r, _ := table.of(k)
	var words []api.Word
	if r.name != "" {
		words = append(words, atom(r.name))
	}
	for _, arg := range r.args {
		words = append(words, arg.word(k))
	}
	return append(words, table.row(k.Kids)...)
}
