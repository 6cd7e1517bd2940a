package mirror

import (
	"postbag/api"
	"postbag/octet"
)

const recent = `\Recent`

// draft is a row as it is behind some data of an answer, of which the next one may still show that the answer cannot follow.
type draft struct {
	row
	at      int
	highest int
}

func (m *Mirror) fetched(a api.Answer) func() {
	p := &m.picture
	if !m.mayTell() || !p.has(a.Num) {
		return nil
	}
	d := draft{p.rows[a.Num-1], a.Num - 1, p.highest}
	for _, datum := range a.Data {
		if !p.learn(&d, datum) {
			return nil
		}
	}
	return func() { p.rows[d.at], p.highest = d.row, d.highest }
}

// learn takes a datum into a draft; false: it cannot be so.
func (p *picture) learn(d *draft, datum api.Datum) bool {
	switch datum.Name {
	case "UID":
		return p.learnUid(d, datum.Value)
	case "FLAGS":
		return d.learnFlags(datum.Value)
	case "MODSEQ":
		return d.learnModseq(datum.Value)
	}
	return true
}

func (p *picture) learnUid(d *draft, v api.Value) bool {
	switch {
	case !isNumber(v, 1):
		return false
	case d.uid != 0:
		return d.uid == v.Num
	case !p.fits(d.at, v.Num):
		return false
	}
	d.uid = v.Num
	if flags, is := p.was[d.uid]; is && !d.known {
		d.known, d.flags = true, flags
	}
	return true
}

func (d *draft) learnFlags(v api.Value) bool {
	if v.Kind != api.ValueList {
		return false
	}
	var flags []string
	for _, kid := range v.Kids {
		if kid.Kind != api.ValueAtom {
			return false
		}
		if !octet.Same(kid.Text, recent) {
			flags = append(flags, kid.Text)
		}
	}
	d.known, d.flags = true, flags
	return true
}

func (d *draft) learnModseq(v api.Value) bool {
	if v.Kind != api.ValueList || len(v.Kids) != 1 || !isNumber(v.Kids[0], 0) {
		return false
	}
	d.highest = max(d.highest, v.Kids[0].Num)
	return true
}

// isNumber tells whether a value is a number that is not below the least one.
func isNumber(v api.Value, least int) bool {
	return v.Kind == api.ValueNumber && v.Num >= least && v.Num <= api.MaxNumber
}
