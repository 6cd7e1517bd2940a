package session

import (
	"slices"
	"strconv"
	"strings"

	"postbag/answer"
	"postbag/api"
	"postbag/letter"
	"postbag/limb"
	"postbag/moment"
)

func (j *job) fetch() error {
	uids, err := j.meant(false)
	if err != nil {
		return err
	}
	mails := j.shown(func(m api.Mail) bool { return slices.Contains(uids, m.Uid) && m.Modseq > since(j.asked.Changed) })
	e, code := j.seeing(mails)
	if err := planned(code, api.CodeNone); err != nil {
		return err
	}
	told := j.lines(mails, e)
	if printed(told...) > api.MaxOutput {
		return refuse(api.CodeLimit)
	}
	if err := j.commit(e); err != nil {
		return err
	}
	j.tell(told...)
	return nil
}

// seeing is the event by which messages are seen, a zero one if they are only looked at.
func (j *job) seeing(mails []api.Mail) (api.Event, api.Errno) {
	if j.readOnly || !slices.ContainsFunc(j.asked.Items, isReading) {
		return api.Event{}, api.OK
	}
	e, _, code := j.store().Flags(j.box, uidsOf(mails), 1, []string{seenFlag}, since(api.Text{}))
	return e, code
}

// isReading tells whether an item sets \Seen.
func isReading(item api.Item) bool {
	switch item.Kind {
	case api.ItemSection:
		return !item.Peek
	case api.ItemText, api.ItemWhole:
		return true
	}
	return false
}

// lines are what is told of messages, as they will be behind an event that turns their flags.
func (j *job) lines(mails []api.Mail, e api.Event) []api.Answer {
	var out []api.Answer
	for _, m := range mails {
		at := slices.IndexFunc(e.Marks, func(mark api.Mark) bool { return mark.Uid == m.Uid })
		if at >= 0 {
			m.Flags, m.Modseq = e.Marks[at].Flags, e.Number
		}
		out = append(out, fetched(m.Seq, j.data(m, at >= 0)...))
	}
	return out
}

// data is what is told of a message, each name once.
func (j *job) data(m api.Mail, isTurned bool) []api.Datum {
	var out []api.Datum
	put := func(d api.Datum) {
		if !slices.ContainsFunc(out, func(other api.Datum) bool { return other.Name == d.Name }) {
			out = append(out, d)
		}
	}
	if j.asked.Uid {
		put(uidDatum(m.Uid))
	}
	for _, item := range j.asked.Items {
		put(datumOf(m, item))
	}
	if isTurned {
		put(flagsDatum(m.Flags, m.Recent))
	}
	if j.asked.Changed.Is || j.modseqs && isTurned {
		put(modseqDatum(m.Modseq))
	}
	return out
}

// printed is how many bytes answers have when they are sent.
func printed(list ...api.Answer) int {
	bytes := 0
	for _, a := range list {
		line, _ := answer.Print(a)
		bytes += len(line)
	}
	return bytes
}

// datumOf is what an item tells of a message.
func datumOf(m api.Mail, item api.Item) api.Datum {
	head, body := letter.Split(m.Raw)
	switch item.Kind {
	case api.ItemFlags:
		return flagsDatum(m.Flags, m.Recent)
	case api.ItemUid:
		return uidDatum(m.Uid)
	case api.ItemModseq:
		return modseqDatum(m.Modseq)
	case api.ItemSize:
		return api.Datum{Name: "RFC822.SIZE", Value: number(len(m.Raw))}
	case api.ItemDate:
		date, _ := moment.PrintInternal(m.Date)
		return api.Datum{Name: "INTERNALDATE", Value: text(date)}
	case api.ItemEnvelope:
		return api.Datum{Name: "ENVELOPE", Value: limb.Envelope(letter.Envelope(letter.Fields(head)))}
	case api.ItemBody:
		return api.Datum{Name: "BODY", Value: limb.Structure(m.Raw, limb.Parse(m.Raw), false)}
	case api.ItemStructure:
		return api.Datum{Name: "BODYSTRUCTURE", Value: limb.Structure(m.Raw, limb.Parse(m.Raw), true)}
	case api.ItemHeader:
		return api.Datum{Name: "RFC822.HEADER", Value: text(head)}
	case api.ItemText:
		return api.Datum{Name: "RFC822.TEXT", Value: text(body)}
	case api.ItemWhole:
		return api.Datum{Name: "RFC822", Value: text(m.Raw)}
	}
	return sectionDatum(m, item)
}

func sectionDatum(m api.Mail, item api.Item) api.Datum {
	d := api.Datum{Name: "BODY[" + sectionName(item.Section) + "]"}
	piece, is := limb.Section(m.Raw, limb.Parse(m.Raw), item.Section)
	if item.Partial {
		d.Name += "<" + strconv.Itoa(item.From) + ">"
		piece = limb.Partial(piece, item.From, item.N)
	}
	if is {
		d.Value = text(piece)
	}
	return d
}

func sectionName(s api.Section) string {
	kind := ""
	switch s.Kind {
	case api.SectionHeader:
		kind = "HEADER"
	case api.SectionText:
		kind = "TEXT"
	case api.SectionMime:
		kind = "MIME"
	case api.SectionFields:
		kind = "HEADER.FIELDS (" + strings.Join(s.Names, " ") + ")"
	case api.SectionOthers:
		kind = "HEADER.FIELDS.NOT (" + strings.Join(s.Names, " ") + ")"
	}
	if s.Place != "" && kind != "" {
		return s.Place + "." + kind
	}
	return s.Place + kind
}
