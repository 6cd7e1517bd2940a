package session

import (
	"errors"
	"slices"

	"postbag/api"
	"postbag/octet"
	"postbag/store"
)

const condstore = "CONDSTORE"

// job is a command that is being done.
type job struct {
	*Session
	row
	asked      api.Command
	hadModseqs bool // CONDSTORE was on ahead of it
	told       []api.Answer
	code       int // of the tagged OK
	args       []api.Value
}

// row is a verb's.
type row struct {
	name   string
	states state // in which it may be given
	when   int   // which news is told behind it, if it is not by uid; 0: none, by uid neither
	do     func(*job) error
}

func rows() [api.VerbEnable + 1]row {
	const none, numbers, all = 0, api.WhenNumbers, api.WhenAll
	return [...]row{
		api.VerbCapability:  {"CAPABILITY", open, all, (*job).capability},
		api.VerbNoop:        {"NOOP", open, all, (*job).nothing},
		api.VerbLogout:      {"LOGOUT", open, none, (*job).logout},
		api.VerbLogin:       {"LOGIN", fresh, none, (*job).login},
		api.VerbSelect:      {"SELECT", loggedIn, none, (*job).open},
		api.VerbExamine:     {"EXAMINE", loggedIn, none, (*job).open},
		api.VerbCreate:      {"CREATE", loggedIn, all, (*job).create},
		api.VerbDelete:      {"DELETE", loggedIn, all, (*job).drop},
		api.VerbRename:      {"RENAME", loggedIn, all, (*job).rename},
		api.VerbSubscribe:   {"SUBSCRIBE", loggedIn, all, (*job).subscribe},
		api.VerbUnsubscribe: {"UNSUBSCRIBE", loggedIn, all, (*job).unsubscribe},
		api.VerbList:        {"LIST", loggedIn, all, (*job).list},
		api.VerbLsub:        {"LSUB", loggedIn, all, (*job).lsub},
		api.VerbStatus:      {"STATUS", loggedIn, all, (*job).status},
		api.VerbAppend:      {"APPEND", loggedIn, all, (*job).add},
		api.VerbCheck:       {"CHECK", selected, all, (*job).nothing},
		api.VerbClose:       {"CLOSE", selected, none, (*job).close},
		api.VerbUnselect:    {"UNSELECT", selected, none, (*job).unselect},
		api.VerbExpunge:     {"EXPUNGE", selected, all, (*job).expunge},
		api.VerbSearch:      {"SEARCH", selected, numbers, (*job).search},
		api.VerbFetch:       {"FETCH", selected, numbers, (*job).fetch},
		api.VerbStore:       {"STORE", selected, numbers, (*job).mark},
		api.VerbCopy:        {"COPY", selected, all, (*job).copy},
		api.VerbMove:        {"MOVE", selected, all, (*job).move},
		api.VerbSort:        {"SORT", selected, numbers, (*job).sort},
		api.VerbThread:      {"THREAD", selected, numbers, (*job).thread},
		api.VerbIdle:        {"IDLE", loggedIn, all, (*job).rest},
		api.VerbNamespace:   {"NAMESPACE", loggedIn, all, (*job).namespace},
		api.VerbEnable:      {"ENABLE", loggedIn, all, (*job).enable},
	}
}

// rowOf is a zero row, which no state has, of a verb that there is not.
func rowOf(verb int) row {
	if verb < 0 || verb > api.VerbEnable {
		return row{}
	}
	return rows()[verb]
}

// perform does a command, up to its tagged answer.
func (s *Session) perform(c api.Command) ([]api.Answer, error) {
	j := &job{Session: s, row: rowOf(c.Verb), asked: c, hadModseqs: s.modseqs}
	if s.state&j.states == 0 {
		return answers(bad(c.Tag, "not now")), nil
	}
	s.modseqs = s.modseqs || asksModseqs(c)
	err := j.do(j)
	var no *refusal
	switch {
	case errors.Is(err, errNumber):
		return answers(bad(c.Tag, errNumber.Error())), nil
	case errors.As(err, &no):
		j.end(api.OutNo, no.code, no.Error(), no.args...)
	case err != nil:
		s.leave(over)
		return nil, err
	default:
		j.end(api.OutOk, j.code, j.title()+" done", j.args...)
	}
	return j.told, nil
}

// title is what the command is called.
func (j *job) title() string {
	if j.asked.Uid {
		return "UID " + j.name
	}
	return j.name
}

func (j *job) tell(list ...api.Answer) { j.told = append(j.told, list...) }

// end tells the news and the tagged answer; that of IDLE comes when it ends.
func (j *job) end(outcome, code int, text string, args ...api.Value) {
	when := j.when
	if when != 0 && j.asked.Uid {
		when = api.WhenAll
	}
	j.tell(j.news(when)...)
	if !j.idle.Is {
		j.tell(api.Answer{Kind: api.AnswerState, Tag: j.asked.Tag, Outcome: outcome, Code: code, Args: args, Text: text})
	}
}

func (s *Session) store() *store.Store { return s.vault.Store() }

// commit makes an event durable, if there is one, and lets the view hear it.
func (s *Session) commit(e api.Event) error {
	if e.Kind == 0 {
		return nil
	}
	err := s.vault.Commit(e)
	if errors.Is(err, api.WhyQuota) {
		return &refusal{code: api.CodeQuota, why: err}
	}
	if err == nil {
		s.view.Hear(e, true)
	}
	return err
}

// carryOut commits what a plan answered, if it was not refused; missing: the code where there is no such mailbox.
func (s *Session) carryOut(e api.Event, code api.Errno, missing int) error {
	if err := planned(code, missing); err != nil {
		return err
	}
	return s.commit(e)
}

// asksModseqs tells whether a command is one that turns CONDSTORE on.
func asksModseqs(c api.Command) bool {
	switch c.Verb {
	case api.VerbEnable:
		return slices.ContainsFunc(c.Names, func(name string) bool { return octet.Same(name, condstore) })
	case api.VerbSelect, api.VerbExamine:
		return c.Condstore
	case api.VerbFetch:
		return c.Changed.Is || slices.ContainsFunc(c.Items, func(item api.Item) bool { return item.Kind == api.ItemModseq })
	case api.VerbStore:
		return c.Unchanged.Is
	case api.VerbSearch, api.VerbSort, api.VerbThread:
		return hasModseq(c.Key)
	case api.VerbStatus:
		return slices.Contains(c.Status, api.StatusModseq)
	}
	return false
}

// hasModseq tells whether a modseq is asked for anywhere in a key.
func hasModseq(k api.Key) bool {
	return k.Kind == api.KeyModseq || slices.ContainsFunc(k.Kids, hasModseq)
}
