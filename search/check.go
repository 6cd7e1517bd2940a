package search

import (
	"slices"

	"postbag/api"
)

// Check tells whether a tree of keys may be.
func Check(k api.Key) api.Errno { return byKind().check(&k) }

func (table kinds) check(k *api.Key) api.Errno {
	c := census{table: table}
	switch {
	case !c.count(k, 0):
		return api.ErrKey
	case c.keys > api.MaxKeys, c.deepest > api.MaxDepth:
		return api.ErrKeys
	}
	return api.OK
}

// census counts the keys of a tree.
type census struct {
	table   kinds
	keys    int
	deepest int // in how many others one of them lies
}

// count tells whether all keys of a tree are right; it goes on beyond MaxKeys, since a wrong key goes ahead of too many.
func (c *census) count(k *api.Key, depth int) bool {
	if !c.table.isRight(k) {
		return false
	}
	c.keys++
	c.deepest = max(c.deepest, depth)
	for i := range k.Kids {
		if !c.count(&k.Kids[i], depth+1) {
			return false
		}
	}
	return true
}

// isRight tells whether a key, those below it apart, has just what its own words tell: so what may be, what is read and what is written are one.
func (table kinds) isRight(k *api.Key) bool {
	r, is := table.of(k)
	if !is || !hasKids(k, r.kids) {
		return false
	}
	told := api.Key{Kind: r.kind, Text: r.flag}
	for _, arg := range r.args {
		if !arg.take(&told, arg.word(k)) {
			return false
		}
	}
	return hasJust(k, &told)
}

func hasKids(k *api.Key, n int) bool {
	if k.Kind == api.KeyAnd {
		return len(k.Kids) >= n
	}
	return len(k.Kids) == n
}

func hasJust(k, told *api.Key) bool {
	return k.Text == told.Text && k.Field == told.Field && slices.Equal(k.Set, told.Set) && k.Day == told.Day && k.Num == told.Num
}
