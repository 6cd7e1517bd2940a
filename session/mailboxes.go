package session

import (
	"slices"
	"strings"

	"postbag/api"
	"postbag/octet"
	"postbag/store"
)

const (
	inbox     = "INBOX"
	separator = "/"
	noSelect  = `\Noselect`
)

// nameOf is the name that a text says; where it says none it stands for the empty text, which is no name.
func nameOf(text string) string {
	name, _ := octet.FromWire(text)
	return name
}

// wireOf is a name that the store has, as it is sent.
func wireOf(name string) string {
	wire, _ := octet.Wire(name)
	return wire
}

func (j *job) capability() error {
	j.tell(api.Answer{Kind: api.AnswerCapability, Flags: capabilities()})
	return nil
}

func (j *job) nothing() error { return nil }

func (j *job) login() error {
	if j.asked.User != j.user || j.asked.Pass != j.pass {
		return refuse(api.CodeAuth)
	}
	j.state = known
	return nil
}

func (j *job) namespace() error {
	j.tell(api.Answer{Kind: api.AnswerNamespace})
	return nil
}

func (j *job) enable() error {
	enabled := api.Answer{Kind: api.AnswerEnabled}
	if !j.hadModseqs && asksModseqs(j.asked) {
		enabled.Flags = []string{condstore}
	}
	j.tell(enabled)
	return nil
}

func (j *job) create() error {
	e, code := j.store().Make(nameOf(strings.TrimSuffix(j.asked.Name, separator)))
	return j.carryOut(e, code, api.CodeNone)
}

func (j *job) drop() error {
	name := nameOf(j.asked.Name)
	e, code := j.store().Drop(name)
	return j.displace(name, e, code)
}

func (j *job) rename() error {
	name := nameOf(j.asked.Name)
	e, code := j.store().Rename(name, nameOf(j.asked.To))
	return j.displace(name, e, code)
}

// displace carries out a plan that takes a mailbox from its place, unless somebody has it selected: only a limit is of less weight.
func (j *job) displace(name string, e api.Event, code api.Errno) error {
	switch code {
	case api.OK, api.ErrLimit, api.ErrEnd:
		if j.isHeld(name) {
			return refuse(api.CodeInUse)
		}
	}
	return j.carryOut(e, code, api.CodeNone)
}

// isHeld tells whether a mailbox, or one that goes with it, is selected by a connection.
func (s *Session) isHeld(name string) bool {
	return slices.ContainsFunc(s.store().Boxes(), func(box api.BoxSight) bool {
		goes := box.Name == name || name != inbox && isBelow(box.Name, name)
		return goes && s.vault.Held(box.Validity) > 0
	})
}

func isBelow(name, superior string) bool { return strings.HasPrefix(name, superior+separator) }

func (j *job) subscribe() error {
	e, code := j.store().Subscribe(nameOf(j.asked.Name))
	return j.carryOut(e, code, api.CodeNone)
}

func (j *job) unsubscribe() error {
	e, code := j.store().Unsubscribe(nameOf(j.asked.Name))
	return j.carryOut(e, code, api.CodeNone)
}

func (j *job) add() error {
	date := j.now
	if j.asked.Dated {
		date = j.asked.Date
	}
	e, code := j.store().Add(nameOf(j.asked.Name), j.asked.Flags, date, j.asked.Body)
	if err := j.carryOut(e, code, api.CodeTry); err != nil {
		return err
	}
	j.code, j.args = api.CodeAppend, []api.Value{number(e.Box), set(e.First)}
	return nil
}

func (j *job) status() error {
	box, code := j.store().Box(nameOf(j.asked.Name))
	if code != api.OK {
		return refuse(api.CodeNone)
	}
	told := api.Answer{Kind: api.AnswerStatus, Name: wireOf(box.Name)}
	for _, item := range j.asked.Status {
		name, n := j.statusOf(box, item)
		told.Pairs = append(told.Pairs, atom(name), number(n))
	}
	j.tell(told)
	return nil
}

func (j *job) statusOf(box api.BoxSight, item int) (string, int) {
	switch item {
	case api.StatusRecent:
		return "RECENT", len(j.mails(box.Validity, isFrom(j.vault.Recent(box.Validity, false))))
	case api.StatusNext:
		return "UIDNEXT", box.Next
	case api.StatusValidity:
		return "UIDVALIDITY", box.Validity
	case api.StatusUnseen:
		return "UNSEEN", box.Unseen
	case api.StatusModseq:
		return "HIGHESTMODSEQ", box.Highest
	}
	return "MESSAGES", box.Count
}

// list tells the mailboxes.
func (j *job) list() error {
	boxes := j.store().Boxes()
	var names []string
	for _, box := range boxes {
		names = append(names, box.Name)
	}
	j.listed(api.AnswerList, names, func(name string) []string {
		if slices.ContainsFunc(boxes, func(box api.BoxSight) bool { return isBelow(box.Name, name) }) {
			return []string{`\HasChildren`}
		}
		return []string{`\HasNoChildren`}
	})
	return nil
}

// lsub tells the names that are subscribed to.
func (j *job) lsub() error {
	j.listed(api.AnswerLsub, j.store().Subscribed(), func(name string) []string {
		if _, code := j.store().Box(name); code != api.OK {
			return []string{noSelect}
		}
		return nil
	})
	return nil
}

// listed tells those of some names that fit the pattern, with their flags; an empty pattern asks for no name at all.
func (j *job) listed(kind int, names []string, flags func(name string) []string) {
	if j.asked.Pattern == "" {
		j.tell(api.Answer{Kind: kind, Flags: []string{noSelect}})
		return
	}
	for _, name := range names {
		if wire := wireOf(name); store.Match(j.asked.Ref+j.asked.Pattern, wire) {
			j.tell(api.Answer{Kind: kind, Flags: flags(name), Name: wire})
		}
	}
}
