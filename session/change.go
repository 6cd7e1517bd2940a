package session

import (
	"slices"

	"postbag/api"
)

// mark is STORE.
func (j *job) mark() error {
	uids, err := j.meant(true)
	if err != nil {
		return err
	}
	e, left, code := j.store().Flags(j.box, uids, j.asked.Mode, j.asked.Flags, since(j.asked.Unchanged))
	if err := j.carryOut(e, code, api.CodeNone); err != nil {
		return err
	}
	isLeft := func(m api.Mail) bool { return slices.Contains(left, m.Uid) }
	isTold := func(m api.Mail) bool { return slices.Contains(uids, m.Uid) && !isLeft(m) }
	if !j.asked.Silent {
		for _, m := range j.shown(isTold) {
			j.tell(fetched(m.Seq, j.marked(m)...))
		}
	}
	if len(left) > 0 {
		j.code, j.args = api.CodeModified, []api.Value{set(j.numbers(j.shown(isLeft))...)}
	}
	return nil
}

// marked is what STORE tells of a message.
func (j *job) marked(m api.Mail) []api.Datum {
	var data []api.Datum
	if j.asked.Uid {
		data = append(data, uidDatum(m.Uid))
	}
	data = append(data, flagsDatum(m.Flags, m.Recent))
	if j.modseqs {
		data = append(data, modseqDatum(m.Modseq))
	}
	return data
}

func (j *job) copy() error {
	uids, err := j.meant(false)
	if err != nil {
		return err
	}
	e, code := j.store().Copy(j.box, uids, nameOf(j.asked.Name))
	if err := j.carryOut(e, code, api.CodeTry); err != nil || e.Kind == 0 {
		return err
	}
	j.code, j.args = api.CodeCopy, carried(e)
	return nil
}

func (j *job) move() error {
	uids, err := j.meant(true)
	if err != nil {
		return err
	}
	e, code := j.store().Move(j.box, uids, nameOf(j.asked.Name))
	if err := j.carryOut(e, code, api.CodeTry); err != nil || e.Kind == 0 {
		return err
	}
	j.tell(ok(api.CodeCopy, "moved", carried(e)...))
	return nil
}

// carried are the arguments of COPYUID: where to, which ones, and what they are there.
func carried(e api.Event) []api.Value {
	var there []int
	for i := range e.Uids {
		there = append(there, e.First+i)
	}
	return []api.Value{number(e.To), set(e.Uids...), set(there...)}
}
