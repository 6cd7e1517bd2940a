package session

import (
	"slices"

	"postbag/api"
	"postbag/view"
)

// mails are the messages of a mailbox, as the store has them, that a question takes.
func (s *Session) mails(box int, takes func(m api.Mail) bool) []api.Mail {
	all, _ := s.store().Mails(box)
	var out []api.Mail
	for _, m := range all {
		if takes(m) {
			out = append(out, m)
		}
	}
	return out
}

// shown are the messages of the view that have not gone and that a question takes: as the store has them, but by the view's numbers, and recent as they are in it.
func (s *Session) shown(takes func(m api.Mail) bool) []api.Mail {
	var out []api.Mail
	for _, m := range s.mails(s.box, s.isThere) {
		m.Seq, _ = s.view.Seq(m.Uid)
		m.Recent = s.view.Recent(m.Uid)
		if takes(m) {
			out = append(out, m)
		}
	}
	return out
}

// isThere tells whether the view has a message that has not gone.
func (s *Session) isThere(m api.Mail) bool {
	_, code := s.view.Seq(m.Uid)
	return code == api.OK && !s.view.Gone(m.Uid)
}

// isFrom takes the messages from a uid on.
func isFrom(uid int) func(m api.Mail) bool {
	return func(m api.Mail) bool { return m.Uid >= uid }
}

// has takes the messages that have a flag.
func has(flag string) func(m api.Mail) bool {
	return func(m api.Mail) bool { return slices.Contains(m.Flags, flag) }
}

func uidsOf(mails []api.Mail) []int {
	var out []int
	for _, m := range mails {
		out = append(out, m.Uid)
	}
	return out
}

// open selects a mailbox.
func (j *job) open() error {
	if j.state == selected {
		j.leave(known)
		j.tell(ok(api.CodeClosed, "the mailbox is closed"))
	}
	box, code := j.store().Box(nameOf(j.asked.Name))
	if code != api.OK {
		return refuse(api.CodeNone)
	}
	mails, _ := j.store().Mails(box.Validity)
	j.vault.Hold(box.Validity)
	j.state, j.box, j.readOnly = selected, box.Validity, j.asked.Verb == api.VerbExamine
	recent := j.claim()
	j.view = view.New(box, mails, recent)
	j.tell(
		api.Answer{Kind: api.AnswerFlags, Flags: flagsIn(box)},
		counted(api.AnswerExists, box.Count),
		counted(api.AnswerRecent, len(j.mails(j.box, isFrom(recent)))),
	)
	if at := slices.IndexFunc(mails, func(m api.Mail) bool { return !has(seenFlag)(m) }); at >= 0 {
		j.tell(ok(api.CodeUnseen, "the first unseen one", number(at+1)))
	}
	j.tell(
		ok(api.CodePermanent, "these can be kept", list(atoms(j.kept(box)...)...)),
		ok(api.CodeNext, "the next uid", number(box.Next)),
		ok(api.CodeValidity, "the validity", number(box.Validity)),
		ok(api.CodeModseq, "the highest modseq", number(box.Highest)),
	)
	j.code = api.CodeReadWrite
	if j.readOnly {
		j.code = api.CodeReadOnly
	}
	return nil
}

// flagsIn are the flags that a mailbox has a use for.
func flagsIn(box api.BoxSight) []string { return append(systemFlags(), box.Keywords...) }

// kept are the flags that this connection can turn for good.
func (j *job) kept(box api.BoxSight) []string {
	if j.readOnly {
		return nil
	}
	flags := flagsIn(box)
	if len(box.Keywords) < api.MaxKeywords {
		flags = append(flags, moreSign)
	}
	return flags
}

func (j *job) logout() error {
	j.leave(over)
	j.tell(bye("until next time"))
	return nil
}

func (j *job) unselect() error {
	j.leave(known)
	return nil
}

func (j *job) close() error {
	if !j.readOnly {
		if err := j.purge(has(deletedFlag)); err != nil {
			return err
		}
	}
	return j.unselect()
}

func (j *job) expunge() error {
	if j.readOnly {
		return refuse(api.CodeReadOnly)
	}
	if !j.asked.Uid {
		return j.purge(has(deletedFlag))
	}
	uids, _, _ := j.view.Find(j.asked.Set, true)
	return j.purge(func(m api.Mail) bool { return has(deletedFlag)(m) && slices.Contains(uids, m.Uid) })
}

// purge takes messages out of the mailbox, those too that the view was not told of.
func (j *job) purge(takes func(m api.Mail) bool) error {
	e, code := j.store().Expunge(j.box, uidsOf(j.mails(j.box, takes)))
	return j.carryOut(e, code, api.CodeNone)
}

// meant are the uids of the command's set; refused where one of them has gone, or, of a command that writes, where the mailbox is only read.
func (j *job) meant(writes bool) ([]int, error) {
	uids, gone, code := j.view.Find(j.asked.Set, j.asked.Uid)
	switch {
	case code != api.OK:
		return nil, errNumber
	case writes && j.readOnly:
		return nil, refuse(api.CodeReadOnly)
	case gone:
		return nil, refuse(api.CodeIssued)
	}
	return uids, nil
}

// number is what the command calls a message.
func (j *job) number(m api.Mail) int {
	if j.asked.Uid {
		return m.Uid
	}
	return m.Seq
}

func (j *job) numbers(mails []api.Mail) []int {
	var out []int
	for _, m := range mails {
		out = append(out, j.number(m))
	}
	return out
}
