package vault

import "postbag/api"

// memory is what no disk keeps of a mailbox. (There may be no mailbox that has the number.)
type memory struct {
	held   int // how many connections have it selected
	recent int // from which uid on messages are nobody's; 0: from the first one on
}

const firstUid = 1 // no uid is below

// remember keeps only what says something.
func (v *Vault) remember(validity int, m memory) {
	if m == (memory{}) {
		delete(v.known, validity)
		return
	}
	v.known[validity] = m
}

// Hold says that one more connection has a mailbox selected; Release that one less has.
func (v *Vault) Hold(validity int) {
	if v.isNothing() {
		return
	}
	m := v.known[validity]
	m.held++
	v.remember(validity, m)
}

// Release says that one connection less has a mailbox selected.
func (v *Vault) Release(validity int) {
	if v.isNothing() {
		return
	}
	m := v.known[validity]
	m.held = max(0, m.held-1)
	v.remember(validity, m)
}

// Held tells how many connections have a mailbox selected.
func (v *Vault) Held(validity int) int {
	if v.isNothing() {
		return 0
	}
	return v.known[validity].held
}

// Recent is the uid from which on a mailbox's messages are nobody's recent ones as yet; claim: from now on they are somebody's.
func (v *Vault) Recent(validity int, claim bool) int {
	if v.isNothing() {
		return 0
	}
	box, code := v.store.By(validity)
	if code != api.OK {
		return 0
	}
	m := v.known[validity]
	from := max(firstUid, m.recent)
	if claim {
		m.recent = box.Next
		v.remember(validity, m)
	}
	return from
}
