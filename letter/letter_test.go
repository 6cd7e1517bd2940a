package letter_test

import (
	"fmt"
	"math/rand/v2"
	"reflect"
	"strings"
	"testing"

	"postbag/api"
	"postbag/letter"
)

// lists are the six lists of an envelope, by name.
func lists(e *api.Envelope) map[string]*[]api.Address {
	return map[string]*[]api.Address{"From": &e.From, "Sender": &e.Sender, "Reply-To": &e.ReplyTo, "To": &e.To, "Cc": &e.Cc, "Bcc": &e.Bcc}
}

func texts(e *api.Envelope) map[string]*api.Text {
	return map[string]*api.Text{"Date": &e.Date, "Subject": &e.Subject, "In-Reply-To": &e.InReplyTo, "Message-Id": &e.MessageId}
}

// wantEnvelope goes through the fields from the last to the first, so that the first of a name stays.
func wantEnvelope(fields []api.Field) api.Envelope {
	var e api.Envelope
	for i := len(fields) - 1; i >= 0; i-- {
		for name, text := range texts(&e) {
			if strings.EqualFold(name, fields[i].Name) {
				*text = some(fields[i].Value)
			}
		}
		for name, list := range lists(&e) {
			if strings.EqualFold(name, fields[i].Name) {
				*list = wantAddresses(fields[i].Value)
			}
		}
	}
	if len(e.Sender) == 0 {
		e.Sender = e.From
	}
	if len(e.ReplyTo) == 0 {
		e.ReplyTo = e.From
	}
	return e
}

// toldEnvelope is an envelope in one line; a nil list and an empty one are the same.
func toldEnvelope(e api.Envelope) string {
	var out []string
	for _, name := range []string{"Date", "Subject", "In-Reply-To", "Message-Id"} {
		out = append(out, fmt.Sprintf("%s %v", name, *texts(&e)[name]))
	}
	for _, name := range []string{"From", "Sender", "Reply-To", "To", "Cc", "Bcc"} {
		out = append(out, name+" "+told(*lists(&e)[name]))
	}
	return strings.Join(out, " | ")
}

// lookAtEnvelope: P5.9, P5.13.
func lookAtEnvelope(t *testing.T, fields []api.Field) {
	t.Helper()
	given := withSpare(fields)
	want := toldEnvelope(wantEnvelope(fields))
	for range 2 {
		e := letter.Envelope(given.list)
		if got := toldEnvelope(e); got != want {
			t.Errorf("Envelope(%q): %s\nnot %s", fields, got, want)
		}
		// Writing upon one list, its spare room too, must leave all others as they are.
		for name, list := range lists(&e) {
			rest := wantEnvelope(fields)
			overwrite(*list)
			*list, *lists(&rest)[name] = nil, nil
			if got := toldEnvelope(e); got != toldEnvelope(rest) {
				t.Errorf("Envelope(%q): with %s overwritten: %s", fields, name, got)
			}
			e = letter.Envelope(given.list)
		}
		if given.isChanged() {
			t.Errorf("Envelope(%q): the fields are %q now", fields, given.list)
		}
	}
}

// headed makes fields of names and values in turn.
func headed(l ...string) []api.Field {
	var fields []api.Field
	for i := 0; i < len(l); i += 2 {
		fields = append(fields, field(l[i], l[i+1], "X: not looked at\r\n"))
	}
	return fields
}

// P5.9
func TestEnvelope(t *testing.T) {
	ab := func() []api.Address { return []api.Address{{Box: some("a"), Host: some("b")}} }
	cd := func() []api.Address { return []api.Address{{Box: some("c"), Host: some("d")}} }
	for _, c := range []struct {
		fields []api.Field
		want   api.Envelope
	}{
		{nil, api.Envelope{}},
		{headed(), api.Envelope{}},
		{headed("X", "y", "", "a@b", "Dates", "z", "Reply", "a@b"), api.Envelope{}},
		{headed("From", "", "Sender", "", "Reply-To", "(c)", "To", ",", "Cc", " ", "Bcc", ";"), api.Envelope{}},
		// the texts, there and empty
		{headed("date", "1", "SUBJECT", "2", "In-reply-to", "3", "message-ID", "4"), api.Envelope{Date: some("1"), Subject: some("2"), InReplyTo: some("3"), MessageId: some("4")}},
		{headed("date", "", "SUBJECT", "", "In-reply-to", "", "message-ID", ""), api.Envelope{Date: some(""), Subject: some(""), InReplyTo: some(""), MessageId: some("")}},
		{headed("Subject", "", "Subject", "2"), api.Envelope{Subject: some("")}},
		{headed("Subject", "=?utf-8?q?a?= <x@y>  "), api.Envelope{Subject: some("=?utf-8?q?a?= <x@y>  ")}},
		{headed("Date", "<x@y>", "date", "2"), api.Envelope{Date: some("<x@y>")}},
		// the lists
		{headed("From", "a@b", "Sender", "", "To", "c@d", "To", "e@f"), api.Envelope{From: ab(), Sender: ab(), ReplyTo: ab(), To: cd()}},
		{headed("To", "", "To", "c@d"), api.Envelope{}},
		{headed("CC", "a@b", "bcc", "c@d"), api.Envelope{Cc: ab(), Bcc: cd()}},
		{headed("Sender", "a@b"), api.Envelope{Sender: ab()}},
		{headed("Reply-To", "a@b"), api.Envelope{ReplyTo: ab()}},
		{headed("From", "a@b", "sender", "c@d", "reply-to", "(x), ,"), api.Envelope{From: ab(), Sender: cd(), ReplyTo: ab()}},
		{headed("From", "a@b", "SENDER", ";", "REPLY-TO", "c@d"), api.Envelope{From: ab(), Sender: ab(), ReplyTo: cd()}},
		{headed("From", "a@b", "Sender", "", "Sender", "c@d"), api.Envelope{From: ab(), Sender: ab(), ReplyTo: ab()}},
		{headed("From", "a@b", "Sender", ":;", "Reply-To", `""`), api.Envelope{From: ab(), Sender: []api.Address{{Box: some("")}, {}}, ReplyTo: []api.Address{{Box: some(""), Host: some("")}}}},
	} {
		if got, want := toldEnvelope(letter.Envelope(c.fields)), toldEnvelope(c.want); got != want {
			t.Errorf("Envelope(%q): %s\nnot %s", c.fields, got, want)
		}
		lookAtEnvelope(t, c.fields)
	}
}

// P5.9: of headers of many kinds; what the fields' Raws say is not looked at.
func TestEnvelopesOfManyKinds(t *testing.T) {
	r := rand.New(rand.NewPCG(5, 9))
	names := []string{"Date", "Subject", "From", "from", "Sender", "SENDER", "Reply-To", "reply-to", "To", "Cc", "BCC", "In-Reply-To", "Message-ID", "Message-Id", "X", "", "Fro", "Resent-From"}
	values := []string{"", " ", "a@b", "a@b, c <d@e>", "g: h;", "(c)", ",", `"`, "<x@y>", "\xff", strings.Repeat("a,", 40)}
	for range 5000 {
		var fields []api.Field
		for range r.IntN(9) {
			fields = append(fields, field(names[r.IntN(len(names))], values[r.IntN(len(values))], "From: z@z\r\n"))
		}
		lookAtEnvelope(t, fields)
	}
}

// P5.9, P5.2: from a message's bytes to its envelope.
func TestEnvelopeOfAMessage(t *testing.T) {
	head, body := letter.Split("Date: Mon, 2 Feb 2026 10:00:00 +0000\r\nFROM : Jo\r\n\t<a@b>\r\nno field\r\nSubject:\r\nto: g: c@d;\r\nMessage-ID: <1@x>\r\n\r\nTo: e@f\r\n")
	want := api.Envelope{
		Date:      some("Mon, 2 Feb 2026 10:00:00 +0000"),
		Subject:   some(""),
		From:      []api.Address{{Name: some("Jo"), Box: some("a"), Host: some("b")}},
		Sender:    []api.Address{{Name: some("Jo"), Box: some("a"), Host: some("b")}},
		ReplyTo:   []api.Address{{Name: some("Jo"), Box: some("a"), Host: some("b")}},
		To:        []api.Address{{Box: some("g")}, {Box: some("c"), Host: some("d")}, {}},
		MessageId: some("<1@x>"),
	}
	if got := letter.Envelope(letter.Fields(head)); !reflect.DeepEqual(got, want) || body != "To: e@f\r\n" {
		t.Errorf("%+v, %q", got, body)
	}
}
