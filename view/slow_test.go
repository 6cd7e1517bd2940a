package view_test

import (
	"math/big"
	"math/rand/v2"
	"slices"
	"testing"

	"postbag/api"
	"postbag/view"
)

// slow is a view of another make: one list of all messages, told of or not, each with all marks that were heard since the last that was told.
type slow struct {
	validity int
	messages []slowMessage
}

type slowMessage struct {
	uid          int
	told         bool
	gone, recent bool
	turns        []slowTurn
}

type slowTurn struct {
	own  bool
	told api.Told
}

func newSlow(validity int, uids []int, recent int) *slow {
	m := &slow{validity: validity}
	for _, uid := range uids {
		m.come(big.NewInt(int64(uid)))
	}
	m.settle(recent)
	return m
}

func (m *slow) settle(recent int) (some bool) {
	for i := range m.messages {
		if message := &m.messages[i]; !message.told {
			message.told, message.recent, some = true, message.uid >= recent, true
		}
	}
	return some
}

func (m *slow) come(uid *big.Int) {
	if uid.Sign() <= 0 || uid.Cmp(big.NewInt(end)) > 0 {
		return
	}
	for _, message := range m.messages {
		if uid.Cmp(big.NewInt(int64(message.uid))) <= 0 {
			return
		}
	}
	m.messages = append(m.messages, slowMessage{uid: int(uid.Int64())})
}

func (m *slow) leave(uid int) {
	m.messages = slices.DeleteFunc(m.messages, func(message slowMessage) bool { return message.uid == uid && !message.told })
	for i := range m.messages {
		if m.messages[i].uid == uid {
			m.messages[i].gone = true
		}
	}
}

func (m *slow) hear(e api.Event, own bool) {
	from, to := e.Box == m.validity, e.To == m.validity
	switch e.Kind {
	case api.EventAdd:
		if from {
			m.come(big.NewInt(int64(e.First)))
		}
	case api.EventCopy, api.EventMove:
		for i := range e.Uids {
			if to {
				m.come(new(big.Int).Add(big.NewInt(int64(e.First)), big.NewInt(int64(i))))
			}
		}
	case api.EventFlags:
		for _, mark := range e.Marks {
			if from {
				m.turn(e.Number, mark, own)
			}
		}
	}
	for i := len(m.messages) - 1; i >= 0; i-- {
		uid := m.messages[i].uid
		goes := e.Kind == api.EventInbox || (e.Kind == api.EventExpunge || e.Kind == api.EventMove) && slices.Contains(e.Uids, uid)
		if from && goes {
			m.leave(uid)
		}
	}
}

func (m *slow) turn(number int, mark api.Mark, own bool) {
	for i, message := range m.messages {
		if message.uid == mark.Uid && message.told {
			m.messages[i].turns = append(message.turns, slowTurn{own, flags(0, mark.Uid, number, slices.Clone(mark.Flags)...)})
		}
	}
}

func (m *slow) take(when, recent int) []api.Told {
	var out []api.Told
	if when != api.WhenNumbers && when != api.WhenAll {
		return nil
	}
	for when == api.WhenAll {
		at := slices.IndexFunc(m.messages, func(message slowMessage) bool { return message.gone })
		if at < 0 {
			break
		}
		out = append(out, gone(at+1, m.messages[at].uid))
		m.messages = slices.Delete(m.messages, at, at+1)
	}
	if m.settle(recent) {
		count := 0
		for _, message := range m.messages {
			if message.recent {
				count++
			}
		}
		out = append(out, api.Told{Kind: api.ToldExists, Num: len(m.messages)}, api.Told{Kind: api.ToldRecent, Num: count})
	}
	for i, message := range m.messages {
		byOthers := slices.ContainsFunc(message.turns, func(turn slowTurn) bool { return !turn.own })
		if byOthers && !message.gone {
			last := message.turns[len(message.turns)-1].told
			last.Num = i + 1
			out = append(out, last)
		}
		m.messages[i].turns = nil
	}
	return out
}

func (m *slow) uids(of func(message slowMessage) bool) []int {
	var out []int
	for _, message := range m.messages {
		if message.told && of(message) {
			out = append(out, message.uid)
		}
	}
	return out
}

func (m *slow) all() []int { return m.uids(func(slowMessage) bool { return true }) }

func (m *slow) find(pieces []api.Range, byUid bool) ([]int, bool, api.Errno) {
	rows := m.all()
	left := m.uids(func(message slowMessage) bool { return !message.gone })
	between := func(n int, piece api.Range, star int) bool {
		if piece.From < 0 || piece.To < 0 || piece.From > api.MaxNumber || piece.To > api.MaxNumber {
			return false
		}
		if piece.From == 0 {
			piece.From = star
		}
		if piece.To == 0 {
			piece.To = star
		}
		return piece.From <= n && n <= piece.To || piece.To <= n && n <= piece.From
	}
	var out []int
	has := false
	if byUid {
		for _, uid := range left {
			if slices.ContainsFunc(pieces, func(piece api.Range) bool { return between(uid, piece, left[len(left)-1]) }) {
				out = append(out, uid)
			}
		}
		return out, false, api.OK
	}
	for _, piece := range pieces {
		if !takes(piece, len(rows)) {
			return nil, false, api.ErrView
		}
	}
	for i, uid := range rows {
		if slices.ContainsFunc(pieces, func(piece api.Range) bool { return between(i+1, piece, len(rows)) }) {
			out = append(out, uid)
			has = has || !slices.Contains(left, uid)
		}
	}
	return out, has, api.OK
}

// takes is P16.5's first rule, word by word.
func takes(piece api.Range, rows int) bool {
	withStar := piece.From == 0 || piece.To == 0
	for _, end := range list(piece.From, piece.To) {
		if !withStar && (end < 1 || end > rows) || withStar && (end < 0 || end > api.MaxNumber) {
			return false
		}
	}
	return !withStar || rows > 0
}

// someUids rise as a rule.
func someUids(r *rand.Rand) []int {
	var out []int
	for range r.IntN(8) {
		out = append(out, r.IntN(14))
	}
	if r.IntN(3) > 0 {
		slices.Sort(out)
	}
	if r.IntN(6) == 0 {
		out = append(out, oneOf(r, edges...))
	}
	return out
}

func someFlags(r *rand.Rand) []string {
	var out []string
	for range r.IntN(4) {
		out = append(out, oneOf(r, `\Seen`, `\Deleted`, "work", "", "a b", "\xff", "Work"))
	}
	return out
}

// someUid is as a rule one of a view's, or near its end.
func someUid(r *rand.Rand, m *slow) int {
	if len(m.messages) == 0 || r.IntN(10) == 0 {
		return oneOf(r, append(slices.Clone(edges), 3, 4, 5, 6, 7, 8)...)
	}
	last := m.messages[len(m.messages)-1].uid
	if r.IntN(3) == 0 {
		return last + oneOf(r, -2, -1, 0, 1, 1, 1, 2)
	}
	return m.messages[r.IntN(len(m.messages))].uid
}

func someEvent(r *rand.Rand, m *slow) api.Event {
	e := api.Event{Number: oneOf(r, r.IntN(50), r.IntN(50), oneOf(r, edges...))}
	e.Kind = oneOf(r, api.EventAdd, api.EventAdd, api.EventAdd, api.EventCopy, api.EventCopy, api.EventFlags, api.EventFlags, api.EventFlags, api.EventExpunge, api.EventExpunge, api.EventMove, r.IntN(13), oneOf(r, edges...))
	if e.Kind == api.EventInbox && r.IntN(4) > 0 {
		e.Kind = api.EventAdd
	}
	e.Box, e.To = oneOf(r, here, here, here, there), oneOf(r, here, here, there, 0)
	e.First = someUid(r, m)
	if fills := e.Kind == api.EventAdd || e.Kind == api.EventCopy; fills && len(m.messages) > 0 && r.IntN(2) == 0 {
		e.First = m.messages[len(m.messages)-1].uid + 1
	}
	for range r.IntN(oneOf(r, 2, 3, 6)) {
		e.Uids = append(e.Uids, someUid(r, m))
	}
	for range r.IntN(4) {
		e.Marks = append(e.Marks, mark(someUid(r, m), someFlags(r)...))
	}
	return e
}

func someSet(r *rand.Rand, m *slow) []api.Range {
	var out []api.Range
	bound := len(m.messages) + 1
	if r.IntN(2) == 0 {
		bound = 25
	}
	for range r.IntN(4) {
		piece := api.Range{From: r.IntN(bound), To: r.IntN(bound)}
		if r.IntN(3) == 0 {
			piece.To = piece.From
		}
		if r.IntN(12) == 0 {
			piece.From = oneOf(r, edges...)
		}
		if r.IntN(12) == 0 {
			piece.To = oneOf(r, edges...)
		}
		out = append(out, piece)
	}
	return out
}

// wantAsSlow holds all that can be asked of a view.
func wantAsSlow(t *testing.T, r *rand.Rand, v *view.View, m *slow) {
	t.Helper()
	rows := m.all()
	wantUids(t, "the rows", v, rows...)
	asked := slices.Concat(edges, list(3, 4, 5, 6, 7, 8, 9, 10, 11, 12, 13), rows)
	for _, message := range m.messages {
		asked = append(asked, message.uid, message.uid+1)
	}
	wantSome(t, "gone", v.Gone, asked, m.uids(func(message slowMessage) bool { return message.gone })...)
	wantSome(t, "recent", v.Recent, asked, m.uids(func(message slowMessage) bool { return message.recent })...)
	for _, uid := range asked {
		if number, e := v.Seq(uid); (e == api.OK) != slices.Contains(rows, uid) || e != api.OK && (number != 0 || e != api.ErrView) {
			t.Errorf("Seq(%d): %d, %d", uid, number, e)
		}
	}
	for _, byUid := range []bool{false, true} {
		pieces := someSet(r, m)
		uids, gone, e := m.find(pieces, byUid)
		wantFound(t, v, byUid, sought{pieces, uids, gone, e})
	}
}

// P16.1 to P16.5, P16.7: long random rows of events of any kind and of Takes, against a view of another make.
func TestAgainstSlow(t *testing.T) {
	r := rand.New(rand.NewPCG(16, 1))
	for range 1500 {
		uids, from := someUids(r), oneOf(r, r.IntN(15), r.IntN(15), oneOf(r, edges...))
		v, m := view.New(api.BoxSight{Validity: here}, mails(uids...), from), newSlow(here, uids, from)
		var heard []string
		for range 40 {
			if r.IntN(4) > 0 {
				e, own := someEvent(r, m), r.IntN(3) == 0
				heard = append(heard, words("%+v %v", e, own))
				v.Hear(e, own)
				m.hear(e, own)
			} else {
				when, from := oneOf(r, api.WhenNumbers, api.WhenNumbers, api.WhenAll, oneOf(r, edges...)), oneOf(r, r.IntN(30), oneOf(r, edges...))
				heard = append(heard, words("Take(%d, %d)", when, from))
				wantTold(t, "taken", v.Take(when, from), m.take(when, from)...)
			}
			wantAsSlow(t, r, v, m)
			if t.Failed() {
				t.Fatalf("mails %v: %v", uids, heard)
			}
		}
	}
}

// W2: two views that hear the same say the same.
func TestTwice(t *testing.T) {
	r := rand.New(rand.NewPCG(16, 2))
	for range 200 {
		uids := someUids(r)
		m := newSlow(here, uids, 3)
		one, two := view.New(api.BoxSight{Validity: here}, mails(uids...), 3), view.New(api.BoxSight{Validity: here}, mails(uids...), 3)
		for range 30 {
			e, own, when := someEvent(r, m), r.IntN(2) == 0, r.IntN(4)
			one.Hear(e, own)
			two.Hear(e, own)
			m.hear(e, own)
			two.Uids()
			two.Find(someSet(r, m), r.IntN(2) == 0)
			told := one.Take(when, 4)
			wantTold(t, "the second", two.Take(when, 4), told...)
			wantTold(t, "the model", told, m.take(when, 4)...)
		}
	}
}
