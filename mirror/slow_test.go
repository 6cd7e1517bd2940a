package mirror_test

import (
	"slices"
	"strings"

	"postbag/api"
)

// slow is a mirror of another make: it keeps all that it was ever asked and told, as far as that could follow, and goes through it from the beginning for every question.
type slow struct {
	past []happening
}

// happening is one of three.
type happening struct {
	asked  *api.Command
	told   *api.Answer
	resync *api.MirrorSight
}

// knows is what a fold of the past comes to.
type knows struct {
	waiting    []api.Command
	selected   bool
	numbers    map[int]int // by code
	rows       []slowRow
	was        *api.MirrorSight
	isAnswered bool // something was heard since the first of waiting is the first
}

type slowRow struct {
	uids  []int // none or one
	flags [][]string
}

func (k *knows) end() {
	k.selected, k.numbers, k.rows, k.was = false, map[int]int{}, nil, nil
}

// atHand is the command at hand; a zero one, if there is none.
func (k *knows) atHand() api.Command {
	if len(k.waiting) == 0 {
		return api.Command{}
	}
	return k.waiting[0]
}

func (k *knows) opens() bool {
	verb := k.atHand().Verb
	return verb == api.VerbSelect || verb == api.VerbExamine
}

func (m *slow) fold() *knows {
	k := &knows{numbers: map[int]int{}}
	for _, x := range m.past {
		switch {
		case x.asked != nil:
			k.waiting = append(k.waiting, *x.asked)
		case x.told != nil:
			k.take(*x.told)
		default:
			k.resync(*x.resync)
		}
	}
	return k
}

func (m *slow) ask(c api.Command) api.Errno {
	if c.Tag == "" || c.Verb < 1 || c.Verb > 29 {
		return api.ErrMirror
	}
	m.past = append(m.past, happening{asked: &c})
	return api.OK
}

func (m *slow) hear(a api.Answer) api.Errno {
	if !m.fold().can(a) {
		return api.ErrMirror
	}
	m.past = append(m.past, happening{told: &a})
	return api.OK
}

func (m *slow) resync(was api.MirrorSight) []api.Command {
	m.past = append(m.past, happening{resync: &was})
	k := m.fold()
	every := api.Command{Verb: api.VerbFetch, Set: []api.Range{{From: 1}}}
	switch {
	case !k.selected || len(k.rows) == 0:
		return nil
	case k.was == nil:
		every.Items = []api.Item{{Kind: api.ItemUid}, {Kind: api.ItemFlags}}
		return []api.Command{every}
	}
	changed := every
	every.Items = []api.Item{{Kind: api.ItemUid}}
	changed.Items = []api.Item{{Kind: api.ItemFlags}}
	changed.Uid = true
	changed.Changed = api.Text{Is: true, S: digits(was.Highest)}
	return []api.Command{every, changed}
}

func digits(n int) string {
	if n < 10 {
		return string(rune('0' + n))
	}
	return digits(n/10) + digits(n%10)
}

func (k *knows) resync(was api.MirrorSight) {
	k.was = nil
	if k.selected && len(k.rows) > 0 && was.Validity == k.numbers[api.CodeValidity] && was.Highest > 0 {
		k.was = &was
	}
}

func (m *slow) sight() api.MirrorSight {
	k := m.fold()
	if !k.selected {
		return api.MirrorSight{}
	}
	s := api.MirrorSight{Selected: true, Validity: k.numbers[api.CodeValidity], Next: k.numbers[api.CodeNext], Highest: k.numbers[api.CodeModseq]}
	for _, r := range k.rows {
		s.Uids = append(s.Uids, append(slices.Clone(r.uids), 0)[0])
		s.Flags = append(s.Flags, append(slices.Clone(r.flags), nil)[0])
		s.Known = append(s.Known, len(r.flags) > 0)
	}
	return s
}

// can is the second column of the table, word by word.
func (k *knows) can(a api.Answer) bool {
	c, isOne := k.atHand(), len(k.waiting) > 0
	isRow := 1 <= a.Num && a.Num <= len(k.rows)
	switch a.Kind {
	case 2, 3, 4, 5, 6, 7, 8, 9, 10, 12, 15, 16, 17:
		return true
	case api.AnswerState:
		named := a.Code == api.CodeValidity || a.Code == api.CodeNext || a.Code == api.CodeModseq
		switch {
		case !slices.Contains([]int{api.OutOk, api.OutNo, api.OutBad, api.OutBye}, a.Outcome):
			return false
		case a.Tag != "":
			return isOne && c.Tag == a.Tag && a.Outcome != api.OutBye
		case a.Outcome == api.OutOk && named:
			return len(a.Args) > 0 && a.Args[0].Kind == api.ValueNumber && 0 <= a.Args[0].Num && a.Args[0].Num <= 4294967295
		}
		return true
	case api.AnswerExists:
		if k.opens() {
			return a.Num >= 0 && a.Num <= 262144
		}
		return isOne && k.selected && a.Num >= len(k.rows) && a.Num <= 262144
	case api.AnswerExpunge:
		turns := map[int]bool{api.VerbFetch: c.Uid, api.VerbStore: c.Uid, api.VerbSearch: c.Uid, api.VerbSort: c.Uid, api.VerbThread: c.Uid}
		may, isNamed := turns[c.Verb]
		return isOne && k.selected && !k.opens() && (may || !isNamed) && isRow
	case api.AnswerFetch:
		if !isOne || !k.selected || k.opens() || !isRow {
			return false
		}
		rows := slices.Clone(k.rows)
		for _, d := range a.Data {
			if !k.put(rows, a.Num, d) {
				return false
			}
		}
		return true
	}
	return false
}

// put lays a datum into rows; false: what they would be then cannot be.
func (k *knows) put(rows []slowRow, n int, d api.Datum) bool {
	r, v := &rows[n-1], d.Value
	switch d.Name {
	case "UID":
		if v.Kind != api.ValueNumber || v.Num < 1 || v.Num > 4294967295 {
			return false
		}
		if len(r.uids) == 0 && len(r.flags) == 0 {
			r.flags = k.remembered(v.Num)
		}
		r.uids = append(slices.Clone(r.uids), v.Num)
		if slices.Max(r.uids) != slices.Min(r.uids) {
			return false
		}
		r.uids = r.uids[:1]
		var all []int
		for _, x := range rows {
			all = append(all, x.uids...)
		}
		return slices.IsSorted(all) && len(slices.Compact(all)) == len(all)
	case "FLAGS":
		flags := []string{}
		for _, kid := range v.Kids {
			if kid.Kind != api.ValueAtom {
				return false
			}
			if strings.ToLower(kid.Text) != `\recent` {
				flags = append(flags, kid.Text)
			}
		}
		r.flags = [][]string{flags}
		return v.Kind == api.ValueList
	case "MODSEQ":
		return v.Kind == api.ValueList && len(v.Kids) == 1 && v.Kids[0].Kind == api.ValueNumber && 0 <= v.Kids[0].Num && v.Kids[0].Num <= 4294967295
	}
	return true
}

// remembered are the flags that a uid had at another time, none or one list of them.
func (k *knows) remembered(uid int) [][]string {
	if k.was == nil {
		return nil
	}
	at := slices.Index(k.was.Uids, uid)
	if at < 0 || at >= len(k.was.Known) || !k.was.Known[at] {
		return nil
	}
	if at >= len(k.was.Flags) {
		return [][]string{{}}
	}
	return [][]string{k.was.Flags[at]}
}

// take is the third column of the table, of an answer that can follow.
func (k *knows) take(a api.Answer) {
	if k.opens() && !k.isAnswered && !(a.Kind == api.AnswerState && a.Tag != "" && a.Outcome == api.OutBad) {
		k.isAnswered = true
		k.end()
	}
	switch {
	case a.Kind == api.AnswerState && a.Tag != "":
		k.answered(a.Outcome)
	case a.Kind == api.AnswerState && a.Outcome == api.OutBye:
		k.end()
	case a.Kind == api.AnswerState && a.Outcome == api.OutOk && k.opens() && len(a.Args) > 0:
		k.numbers[a.Code] = a.Args[0].Num
	case a.Kind == api.AnswerExists && k.opens():
		k.rows = make([]slowRow, a.Num)
	case a.Kind == api.AnswerExists:
		for len(k.rows) < a.Num {
			k.rows = append(k.rows, slowRow{})
		}
	case a.Kind == api.AnswerExpunge:
		k.rows = slices.Concat(k.rows[:a.Num-1], k.rows[a.Num:])
	case a.Kind == api.AnswerFetch:
		k.rows = slices.Clone(k.rows)
		for _, d := range a.Data {
			k.put(k.rows, a.Num, d)
			if d.Name == "MODSEQ" && d.Value.Kids[0].Num > k.numbers[api.CodeModseq] {
				k.numbers[api.CodeModseq] = d.Value.Kids[0].Num
			}
		}
	}
}

func (k *knows) answered(outcome int) {
	c, opens := k.waiting[0], k.opens()
	k.waiting, k.isAnswered = k.waiting[1:], false
	switch {
	case opens && outcome == api.OutOk:
		k.selected = true
	case opens && outcome == api.OutNo:
		k.end()
	case outcome != api.OutOk:
	case c.Verb == api.VerbClose || c.Verb == api.VerbUnselect || c.Verb == api.VerbLogout:
		k.end()
	case c.Verb == api.VerbStore && c.Silent:
		k.rows = slices.Clone(k.rows)
		for i := range k.rows {
			if r := &k.rows[i]; isMeant(c, i+1, r.uids) {
				r.flags = nil
			}
		}
	}
}

// isMeant tells whether a silent STORE may have meant a row of a number, with a uid or none.
func isMeant(c api.Command, n int, uids []int) bool {
	named := []int{n}
	if c.Uid {
		named = uids
	}
	if c.Uid && len(uids) == 0 {
		return true
	}
	for _, p := range c.Set {
		if p.From == 0 || p.To == 0 {
			return true
		}
		for _, x := range named {
			inside := p.From <= x && x <= p.To || p.To <= x && x <= p.From
			if inside && p.From > 0 && p.To > 0 && p.From <= 4294967295 && p.To <= 4294967295 {
				return true
			}
		}
	}
	return false
}
