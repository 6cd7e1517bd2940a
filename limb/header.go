package limb

import (
	"postbag/api"
	"postbag/letter"
)

// headed is a limb with what its header says, and nothing else; inDigest: it lies directly in a multipart/digest.
func headed(head string, inDigest bool) api.Limb {
	fields := letter.Fields(head)
	value := func(name string) api.Text { return letter.Get(fields, "Content-"+name) }
	// A field that is missing says as little as an empty one, where a token is looked for.
	read := func(name string) *cursor { return &cursor{value(name).S} }

	// Get has cut the blanks off already.
	l := api.Limb{Id: value("Id"), About: value("Description"), Where: value("Location")}
	l.Type, l.Sub, l.Params = typeOf(read("Type"), inDigest)
	l.Coding = present(read("Transfer-Encoding").small())
	l.Langs = read("Language").tokens()
	placed := read("Disposition")
	l.Placed = present(placed.small())
	if l.Placed.Is {
		l.PlacedParams = placed.params()
	}
	return l
}

func typeOf(c *cursor, inDigest bool) (kind, sub string, params []api.Param) {
	kind, sub, is := c.media()
	switch {
	case is:
		return kind, sub, c.params()
	case inDigest:
		return "message", "rfc822", nil
	}
	return "text", "plain", []api.Param{{Name: "charset", Value: "us-ascii"}}
}

// present is a text that is missing if it is empty.
func present(s string) api.Text { return api.Text{Is: s != "", S: s} }
