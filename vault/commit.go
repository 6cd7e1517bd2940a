package vault

import (
	"postbag/api"
	"postbag/event"
	"postbag/frame"
)

const (
	committing    = "commit"
	checkpointing = "checkpoint"
)

// Commit makes an event durable, and applies it.
func (v *Vault) Commit(e api.Event) error {
	return v.whileAlive(committing, func() error { return v.commit(e) })
}

// Checkpoint writes a checkpoint, and empties the journal.
func (v *Vault) Checkpoint() error {
	return v.whileAlive(checkpointing, func() error {
		text, fits := v.frozen()
		if !fits {
			return fail(checkpointing, partFile, api.ErrQuota, api.WhyQuota)
		}
		return v.write(text)
	})
}

// whileAlive does what only a vault that lives can do. It is dead from a stop within that on, for it cannot tell what the disk has then.
func (v *Vault) whileAlive(op string, do func() error) (err error) {
	if v.isNothing() {
		return fail(op, "", api.ErrVault, api.WhyRefused)
	}
	defer func() { v.dead = v.dead || isStop(err) }()
	if v.dead || v.disk.Down() {
		return fail(op, "", api.ErrDown, api.WhyDown)
	}
	return do()
}

func (v *Vault) commit(e api.Event) error {
	if isZero(e) {
		return nil
	}
	if code := v.store.May(e); code != api.OK {
		return fail(committing, "", code, api.WhyRefused)
	}
	// Of an event that may be, neither is refused.
	body, _ := event.Encode(e)
	text, _ := frame.Encode(api.FrameEvent, e.Number, body)
	if err := v.makeRoom(len(text) + reserve(e.Kind)); err != nil {
		return err
	}
	if err := v.disk.Append(journalFile, text); err != nil {
		return err
	}
	if err := v.disk.Sync(journalFile); err != nil {
		return err
	}
	v.store.Apply(e)
	v.committed = append(v.committed, body)
	return v.checkpointIfDue()
}

func isZero(e api.Event) bool {
	return e.Number == 0 && e.Kind == 0 && e.Box == 0 && e.To == 0 && e.First == 0 && e.Name == "" &&
		len(e.Names) == 0 && len(e.Boxes) == 0 && len(e.Uids) == 0 && len(e.Marks) == 0 && e.Date == (api.Moment{}) && e.Body == ""
}

// reserve is how many bytes an event of a kind must leave: one that brings something may not take the room in which others make room.
func reserve(kind int) int {
	switch kind {
	case api.EventMake, api.EventRename, api.EventInbox, api.EventAdd, api.EventCopy, api.EventMove, api.EventSubscribe:
		return api.Reserve
	}
	return 0
}

// makeRoom looks for so many bytes, behind a checkpoint, if they are not there and it makes the files shorter.
func (v *Vault) makeRoom(n int) error {
	if v.hasRoom(n) {
		return nil
	}
	if text, fits := v.frozen(); fits && len(text) < v.size(checkpointFile)+v.size(journalFile) {
		if err := v.write(text); err != nil {
			return err
		}
	}
	if !v.hasRoom(n) {
		return fail(committing, journalFile, api.ErrQuota, api.WhyQuota)
	}
	return nil
}

func (v *Vault) hasRoom(n int) bool { return v.disk.Used()+n <= v.disk.Quota() }

// checkpointIfDue writes a checkpoint behind so many events; where it has no room, it is left out.
func (v *Vault) checkpointIfDue() error {
	if v.every <= 0 || v.store.Last()-v.from < v.every {
		return nil
	}
	text, fits := v.frozen()
	if !fits {
		return nil
	}
	return v.write(text)
}

// frozen is the frame of the frozen store, and whether it has room beside all that is there.
func (v *Vault) frozen() (string, bool) {
	text, code := frame.Encode(api.FrameStore, v.store.Last(), v.store.Freeze())
	return text, code == api.OK && v.hasRoom(len(text))
}

// write puts a checkpoint in the place of the old one and of the journal. It gets its name only when all of it is durable; should the machine stop ahead of the last operation, the journal holds nothing that is not in it.
func (v *Vault) write(checkpoint string) error {
	if err := v.disk.Append(partFile, checkpoint); err != nil {
		return err
	}
	if err := v.disk.Sync(partFile); err != nil {
		return err
	}
	if err := v.disk.Rename(partFile, checkpointFile); err != nil {
		return err
	}
	if v.disk.Size(journalFile) >= 0 {
		if err := v.disk.Truncate(journalFile, 0); err != nil {
			return err
		}
	}
	v.from = v.store.Last()
	return nil
}
