package mirror

import (
	"slices"

	"postbag/api"
)

// kinds tell of each kind of answers what one of them would change; nil: it cannot follow.
func kinds() [api.AnswerBad + 1]func(m *Mirror, a api.Answer) func() {
	return [api.AnswerBad + 1]func(m *Mirror, a api.Answer) func(){
		api.AnswerState:      (*Mirror).state,
		api.AnswerContinue:   (*Mirror).nothing,
		api.AnswerCapability: (*Mirror).nothing,
		api.AnswerFlags:      (*Mirror).nothing,
		api.AnswerList:       (*Mirror).nothing,
		api.AnswerLsub:       (*Mirror).nothing,
		api.AnswerSearch:     (*Mirror).nothing,
		api.AnswerSort:       (*Mirror).nothing,
		api.AnswerThread:     (*Mirror).nothing,
		api.AnswerStatus:     (*Mirror).nothing,
		api.AnswerExists:     (*Mirror).exists,
		api.AnswerRecent:     (*Mirror).nothing,
		api.AnswerExpunge:    (*Mirror).expunge,
		api.AnswerFetch:      (*Mirror).fetched,
		api.AnswerEsearch:    (*Mirror).nothing,
		api.AnswerEnabled:    (*Mirror).nothing,
		api.AnswerNamespace:  (*Mirror).nothing,
	}
}

// change is what an answer changes; nil: it cannot follow. Nothing has changed as yet.
func (m *Mirror) change(a api.Answer) func() {
	all := kinds()
	if a.Kind < 0 || a.Kind >= len(all) || all[a.Kind] == nil {
		return nil
	}
	return all[a.Kind](m, a)
}

// begins tells whether an answer that can follow ends the picture that there was.
func (m *Mirror) begins(a api.Answer) bool {
	isOwnBad := a.Kind == api.AnswerState && a.Tag != "" && a.Outcome == api.OutBad
	return m.isOpening() && !m.begun && !isOwnBad
}

// isOpening tells whether a SELECT or EXAMINE is at hand.
func (m *Mirror) isOpening() bool {
	c, is := m.waiting.first()
	return is && c.opens()
}

// mayTell tells whether something may be said of the selected mailbox.
func (m *Mirror) mayTell() bool {
	_, is := m.waiting.first()
	return is && m.picture.selected && !m.isOpening()
}

func (m *Mirror) nothing(api.Answer) func() { return func() {} }

func (m *Mirror) state(a api.Answer) func() {
	switch {
	case a.Outcome < api.OutOk || a.Outcome > api.OutBye:
		return nil
	case a.Tag != "":
		return m.answered(a)
	case a.Outcome == api.OutBye:
		return func() { m.picture = picture{} }
	case a.Outcome == api.OutOk:
		return m.coded(a)
	}
	return m.nothing(a)
}

// answered: the command at hand is, and the next one is at hand.
func (m *Mirror) answered(a api.Answer) func() {
	c, is := m.waiting.first()
	if !is || c.tag != a.Tag || a.Outcome == api.OutBye {
		return nil
	}
	return func() {
		m.waiting.drop()
		m.begun = false
		switch {
		case c.opens() && a.Outcome == api.OutOk:
			m.picture.selected = true
		case c.opens() && a.Outcome == api.OutNo, c.leaves() && a.Outcome == api.OutOk:
			m.picture = picture{}
		case c.silent && a.Outcome == api.OutOk:
			m.picture.forget(c)
		}
	}
}

// coded: a code that names a number of a mailbox has one, whatever is at hand; it says something of one that is being selected.
func (m *Mirror) coded(a api.Answer) func() {
	p := &m.picture
	var place *int
	switch a.Code {
	case api.CodeValidity:
		place = &p.validity
	case api.CodeNext:
		place = &p.next
	case api.CodeModseq:
		place = &p.highest
	default:
		return m.nothing(a)
	}
	if len(a.Args) == 0 || !isNumber(a.Args[0], 0) {
		return nil
	}
	if !m.isOpening() {
		return m.nothing(a)
	}
	return func() { *place = a.Args[0].Num }
}

func (m *Mirror) exists(a api.Answer) func() {
	p := &m.picture
	switch {
	case a.Num > api.MaxScript || a.Num < 0:
		return nil
	case m.isOpening():
		return func() { p.rows = make([]row, a.Num) }
	case !m.mayTell() || a.Num < len(p.rows):
		return nil
	}
	return func() { p.rows = append(p.rows, make([]row, a.Num-len(p.rows))...) }
}

func (m *Mirror) expunge(a api.Answer) func() {
	p := &m.picture
	c, _ := m.waiting.first()
	if !m.mayTell() || c.keepsNumbers() || !p.has(a.Num) {
		return nil
	}
	return func() { p.rows = slices.Delete(p.rows, a.Num-1, a.Num) }
}
