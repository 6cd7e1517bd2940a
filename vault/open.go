package vault

import (
	"postbag/api"
	"postbag/disk"
	"postbag/event"
	"postbag/frame"
	"postbag/store"
)

const opening = "open"

// Open brings back what a disk holds.
func Open(d *disk.Disk, rules api.Rules) (*Vault, error) {
	if d.Down() {
		return nil, fail(opening, "", api.ErrDown, api.WhyDown)
	}
	s, code := store.New(rules.Validity, rules.Uid, rules.Number)
	if code != api.OK {
		return nil, fail(opening, "", code, api.WhyRefused)
	}
	checkpoint, journal, err := load(d)
	if err != nil {
		return nil, err
	}
	if d.Size(checkpointFile) >= 0 {
		s = thaw(checkpoint)
	}
	if s == nil {
		return nil, fail(opening, checkpointFile, api.ErrVault, api.WhyBroken)
	}
	from := s.Last()
	whole, is := replay(s, journal)
	if !is {
		return nil, fail(opening, journalFile, api.ErrVault, api.WhyBroken)
	}
	if err := mend(d, len(journal), whole); err != nil {
		return nil, err
	}
	return &Vault{disk: d, store: s, every: rules.Every, from: from, known: knownAtFirst(s)}, nil
}

// load reads the files, those that there are; one that was being written when the machine stopped is of no use.
func load(d *disk.Disk) (checkpoint, journal string, err error) {
	if d.Size(partFile) >= 0 {
		if err := d.Remove(partFile); err != nil {
			return "", "", err
		}
	}
	if checkpoint, err = read(d, checkpointFile); err != nil {
		return "", "", err
	}
	if journal, err = read(d, journalFile); err != nil {
		return "", "", err
	}
	return checkpoint, journal, nil
}

// read is empty of a file that there is not.
func read(d *disk.Disk, name string) (string, error) {
	if d.Size(name) < 0 {
		return "", nil
	}
	return d.Read(name)
}

// thaw is the store of a checkpoint; nil, if no vault left it so.
func thaw(checkpoint string) *store.Store {
	for place, f := range frame.Scan(checkpoint) {
		if place != len(checkpoint) || f.Kind != api.FrameStore {
			return nil
		}
		s, code := store.Thaw(f.Body)
		if code != api.OK || s.Last() != f.Number {
			return nil
		}
		return s
	}
	return nil
}

// replay applies the journal's events that the store has not seen. It tells how many of the journal's bytes are of use from now on (none, if it has no such event); false: no vault left it so. (A first frame too far above the store needs no look of its own, for its event is not the next one.)
func replay(s *store.Store, journal string) (int, bool) {
	from, whole := s.Last(), 0
	for place, f := range frame.Scan(journal) {
		if f.Number <= from {
			continue
		}
		if !take(s, f) {
			return 0, false
		}
		whole = place
	}
	return whole, true
}

// take applies the event of a frame.
func take(s *store.Store, f api.Frame) bool {
	if f.Kind != api.FrameEvent {
		return false
	}
	e, code := event.Decode(f.Body)
	return code == api.OK && e.Number == f.Number && s.Apply(e) == api.OK
}

// mend leaves the journal the bytes that are of use, and makes them durable: what was read of it may be lost at the next stop.
func mend(d *disk.Disk, all, whole int) error {
	if whole < all {
		if err := d.Truncate(journalFile, whole); err != nil {
			return err
		}
	}
	if whole == 0 {
		return nil
	}
	return d.Sync(journalFile)
}

// knownAtFirst: the messages that are there already are recent to nobody.
func knownAtFirst(s *store.Store) map[int]memory {
	out := map[int]memory{}
	for _, box := range s.Boxes() {
		out[box.Validity] = memory{recent: box.Next}
	}
	return out
}
