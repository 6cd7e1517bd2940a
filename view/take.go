package view

import "postbag/api"

// Take tells what may be told now, and holds it for told; recent: the uid from which on what is new is recent.
func (v *View) Take(when, recent int) []api.Told {
	if when != api.WhenNumbers && when != api.WhenAll {
		return nil
	}
	v = v.some()
	var told []api.Told
	if when == api.WhenAll {
		told = v.tellGone(told)
	}
	told = v.tellNew(told, recent)
	return v.tellFlags(told)
}

// tellGone tells of the rows that have gone, and keeps the others.
func (v *View) tellGone(told []api.Told) []api.Told {
	var left []row
rows:
	for _, r := range v.rows {
		if r.gone {
			told = append(told, api.Told{Kind: api.ToldExpunge, Num: len(left) + 1, Uid: r.uid})
			continue rows
		}
		left = append(left, r)
	}
	v.rows = left
	return told
}

// tellNew tells how many rows there are, if some are new.
func (v *View) tellNew(told []api.Told, recent int) []api.Told {
	if len(v.coming) == 0 {
		return told
	}
	v.settle(recent)
	some := v.uids(func(r row) bool { return r.recent })
	return append(told, api.Told{Kind: api.ToldExists, Num: len(v.rows)}, api.Told{Kind: api.ToldRecent, Num: len(some)})
}

// tellFlags tells what waits, and hands its flags on: they are nobody else's.
func (v *View) tellFlags(told []api.Told) []api.Told {
rows:
	for i, r := range v.rows {
		if r.gone || r.waits == nil {
			continue rows
		}
		told = append(told, api.Told{Kind: api.ToldFlags, Num: i + 1, Uid: r.uid, Modseq: r.waits.modseq, Flags: r.waits.flags})
		v.rows[i].waits = nil
	}
	return told
}
