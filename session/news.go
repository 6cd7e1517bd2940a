package session

import "postbag/api"

// news is what may be told of the selected mailbox now, if there is one.
func (s *Session) news(when int) []api.Answer {
	if s.state != selected || when == 0 {
		return nil
	}
	var out []api.Answer
	for _, told := range s.view.Take(when, s.claim()) {
		out = append(out, s.piece(told))
	}
	return out
}

// claim is the uid from which on messages were nobody's: from now on they are this connection's, unless it only reads.
func (s *Session) claim() int { return s.vault.Recent(s.box, !s.readOnly) }

// piece is one piece of news as an answer.
func (s *Session) piece(told api.Told) api.Answer {
	switch told.Kind {
	case api.ToldExpunge:
		return counted(api.AnswerExpunge, told.Num)
	case api.ToldExists:
		return counted(api.AnswerExists, told.Num)
	case api.ToldRecent:
		return counted(api.AnswerRecent, told.Num)
	}
	data := []api.Datum{uidDatum(told.Uid), flagsDatum(told.Flags, s.view.Recent(told.Uid))}
	if s.modseqs {
		data = append(data, modseqDatum(told.Modseq))
	}
	return fetched(told.Num, data...)
}

// rest begins an IDLE.
func (j *job) rest() error {
	j.idle = api.Text{Is: true, S: j.asked.Tag}
	j.tell(goOn("idling"))
	return nil
}

// wake ends an IDLE: as it should be, or by whatever else came.
func (s *Session) wake(kind int) []api.Answer {
	tag := s.idle.S
	s.idle = api.Text{}
	if kind != api.InDone {
		return answers(bad(tag, "IDLE is over"))
	}
	done := ok(0, "IDLE done")
	done.Tag = tag
	return answers(done)
}

// Hear takes in an event that another connection committed; what is told at once.
func (s *Session) Hear(e api.Event) []api.Answer {
	if s.isOver() {
		return nil
	}
	s.view.Hear(e, false)
	if !s.idle.Is {
		return nil
	}
	return s.news(api.WhenAll)
}
