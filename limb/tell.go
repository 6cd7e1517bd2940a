package limb

import (
	"postbag/api"
	"postbag/letter"
)

// Structure is what BODY (or BODYSTRUCTURE) tells.
func Structure(raw string, l api.Limb, whole bool) api.Value {
	var row []api.Value
	var extra api.Value // of a single limb its MD5, which is never known
	if isMultipart(l) && isOpened(l) {
		row, extra = several(raw, l, whole), params(l.Params)
	} else {
		row = single(raw, l, whole)
	}
	if whole {
		row = append(row, extra, placed(l), langs(l.Langs), str(l.Where))
	}
	return list(row...)
}

// several is what is told, short or whole, of a multipart.
func several(raw string, l api.Limb, whole bool) []api.Value {
	var row []api.Value
	for _, kid := range l.Kids {
		row = append(row, Structure(raw, kid, whole))
	}
	return append(row, text(l.Sub))
}

// single is what is told, short or whole, of a limb that is no multipart.
func single(raw string, l api.Limb, whole bool) []api.Value {
	coding := l.Coding.S
	if !l.Coding.Is {
		coding = "7bit"
	}
	row := []api.Value{text(l.Type), text(l.Sub), params(l.Params), str(l.Id), str(l.About), text(coding), number(l.Body.To - l.Body.From)}
	switch {
	case isMessage(l) && isOpened(l):
		inside := l.Kids[0]
		// Where the head does not lie in raw it is empty, and has no fields.
		head, _ := bytesOf(raw, inside.Head)
		row = append(row, Envelope(letter.Envelope(letter.Fields(head))), Structure(raw, inside, whole))
		fallthrough
	case l.Type == "text":
		row = append(row, number(l.Lines))
	}
	return row
}

// Envelope is what ENVELOPE tells.
func Envelope(e api.Envelope) api.Value {
	return list(
		str(e.Date), str(e.Subject),
		addresses(e.From), addresses(e.Sender), addresses(e.ReplyTo),
		addresses(e.To), addresses(e.Cc), addresses(e.Bcc),
		str(e.InReplyTo), str(e.MessageId),
	)
}

func addresses(l []api.Address) api.Value {
	var row []api.Value
	for _, a := range l {
		row = append(row, list(str(a.Name), str(a.Route), str(a.Box), str(a.Host)))
	}
	return listOrNil(row)
}

func params(l []api.Param) api.Value {
	var row []api.Value
	for _, p := range l {
		row = append(row, text(p.Name), text(p.Value))
	}
	return listOrNil(row)
}

func placed(l api.Limb) api.Value {
	if !l.Placed.Is {
		return api.Value{}
	}
	return list(str(l.Placed), params(l.PlacedParams))
}

func langs(l []string) api.Value {
	var row []api.Value
	for _, lang := range l {
		row = append(row, text(lang))
	}
	return listOrNil(row)
}

func str(t api.Text) api.Value {
	if !t.Is {
		return api.Value{}
	}
	return text(t.S)
}

func text(s string) api.Value { return api.Value{Kind: api.ValueString, Text: s} }

func number(n int) api.Value { return api.Value{Kind: api.ValueNumber, Num: n} }

func list(row ...api.Value) api.Value { return api.Value{Kind: api.ValueList, Kids: row} }

func listOrNil(row []api.Value) api.Value {
	if len(row) == 0 {
		return api.Value{}
	}
	return list(row...)
}
