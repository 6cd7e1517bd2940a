package mirror

import "postbag/api"

// picture is how a mailbox stands, as far as it was told. Its zero value is none.
type picture struct {
	selected                bool
	validity, next, highest int // each 0: not told
	rows                    []row
	was                     map[int][]string // flags by uid, as of another time; nil: nothing is remembered
}

// row is a message.
type row struct {
	uid   int // 0: not told
	known bool
	flags []string // of a row whose flags are known; never written upon, since was may lend them
}

func (p *picture) sight() api.MirrorSight {
	if !p.selected {
		return api.MirrorSight{}
	}
	s := api.MirrorSight{Selected: true, Validity: p.validity, Next: p.next, Highest: p.highest}
	for _, r := range p.rows {
		s.Uids = append(s.Uids, r.uid)
		s.Flags = append(s.Flags, append([]string(nil), r.flags...))
		s.Known = append(s.Known, r.known)
	}
	return s
}

// has tells whether there is a row of a number.
func (p *picture) has(number int) bool { return number >= 1 && number <= len(p.rows) }

// fits tells whether a row may have a uid that was not told. Those that were told rise, so that the nearest ones on both sides speak for all.
func (p *picture) fits(at, uid int) bool {
	nearest := func(step int) int {
		for i := at + step; i >= 0 && i < len(p.rows); i += step {
			if p.rows[i].uid != 0 {
				return p.rows[i].uid
			}
		}
		return 0
	}
	above := nearest(1)
	return nearest(-1) < uid && (above == 0 || uid < above)
}

// forget: what a silent STORE has turned is not known any more.
func (p *picture) forget(c asked) {
	for i, r := range p.rows {
		if r.known && c.mayMean(i+1, r) {
			p.rows[i] = row{uid: r.uid}
		}
	}
}

// remembered are the flags that were known, by uid.
func remembered(was api.MirrorSight) map[int][]string {
	out := map[int][]string{}
	// From the end on, so that of a uid that stands there twice the first place has the last word.
	for i := len(was.Uids) - 1; i >= 0; i-- {
		uid := was.Uids[i]
		switch {
		case i >= len(was.Known) || !was.Known[i]:
			delete(out, uid)
		case i >= len(was.Flags):
			out[uid] = nil
		default:
			out[uid] = append([]string(nil), was.Flags[i]...)
		}
	}
	return out
}
