package event

import (
	"slices"

	"postbag/api"
	"postbag/moment"
	"postbag/octet"
)

const (
	inbox = "INBOX"

	mostKind = api.EventUnsubscribe

	zoneShift = 1440 // makes every zone a number that can be written
)

// part is something that an event has, one thing or several in a row.
type part struct {
	holds func(e *api.Event) bool               // whether it is as it may be
	write func(out []byte, e *api.Event) []byte // puts its bytes behind others
	read  func(c *cursor, e *api.Event)         // takes it from bytes
	drop  func(e *api.Event)                    // makes it zero
}

// kindOf is all that the events of a kind have; false, if there is no such kind.
func kindOf(kind int) (part, bool) {
	if kind < api.EventMake || kind > mostKind {
		return part{}, false
	}
	return kinds()[kind], true
}

// kinds is what each kind has, in the order of its bytes.
func kinds() [mostKind + 1]part {
	box := numberPart(func(e *api.Event) *int { return &e.Box })
	to := numberPart(func(e *api.Event) *int { return &e.To })
	first := numberPart(func(e *api.Event) *int { return &e.First })
	name := textPart(func(e *api.Event) *string { return &e.Name }, isName)
	body := textPart(func(e *api.Event) *string { return &e.Body }, func(string) bool { return true })
	firsts := first
	firsts.holds = hasRoom
	moved := row(box, to, firsts, uidsPart())
	return [...]part{
		api.EventMake:        namesPart(),
		api.EventDrop:        box,
		api.EventRename:      row(box, namesPart()),
		api.EventInbox:       row(box, namesPart()),
		api.EventAdd:         row(box, first, markPart(), datePart(), body),
		api.EventFlags:       row(box, marksPart()),
		api.EventExpunge:     row(box, uidsPart()),
		api.EventCopy:        moved,
		api.EventMove:        moved,
		api.EventSubscribe:   name,
		api.EventUnsubscribe: name,
	}
}

func row(parts ...part) part {
	return part{
		holds: func(e *api.Event) bool {
			for _, p := range parts {
				if !p.holds(e) {
					return false
				}
			}
			return true
		},
		write: func(out []byte, e *api.Event) []byte {
			for _, p := range parts {
				out = p.write(out, e)
			}
			return out
		},
		read: func(c *cursor, e *api.Event) {
			for _, p := range parts {
				p.read(c, e)
			}
		},
		drop: func(e *api.Event) {
			for _, p := range parts {
				p.drop(e)
			}
		},
	}
}

func numberPart(at func(e *api.Event) *int) part {
	return part{
		holds: func(e *api.Event) bool { return isNumber(*at(e)) },
		write: func(out []byte, e *api.Event) []byte { return appendNumber(out, *at(e)) },
		read:  func(c *cursor, e *api.Event) { *at(e) = c.number() },
		drop:  func(e *api.Event) { *at(e) = 0 },
	}
}

func textPart(at func(e *api.Event) *string, is func(s string) bool) part {
	return part{
		holds: func(e *api.Event) bool { return is(*at(e)) },
		write: func(out []byte, e *api.Event) []byte { return appendText(out, *at(e)) },
		read:  func(c *cursor, e *api.Event) { *at(e) = c.text() },
		drop:  func(e *api.Event) { *at(e) = "" },
	}
}

// namesPart is new mailboxes: of their validities the first one tells the others.
func namesPart() part {
	return part{
		holds: func(e *api.Event) bool {
			return len(e.Names) == len(e.Boxes) && areNames(e.Names) && goOn(e.Boxes)
		},
		write: func(out []byte, e *api.Event) []byte {
			out = appendNumber(out, len(e.Names))
			for _, name := range e.Names {
				out = appendText(out, name)
			}
			return appendNumber(out, e.Boxes[0])
		},
		read: func(c *cursor, e *api.Event) {
			for range c.count(api.MaxBoxes) {
				e.Names = append(e.Names, c.text())
			}
			box := c.number()
			for i := range e.Names {
				e.Boxes = append(e.Boxes, box+i)
			}
		},
		drop: func(e *api.Event) { e.Names, e.Boxes = nil, nil },
	}
}

func uidsPart() part {
	return part{
		holds: func(e *api.Event) bool { return rise(e.Uids, itself) },
		write: func(out []byte, e *api.Event) []byte {
			out = appendNumber(out, len(e.Uids))
			for _, uid := range e.Uids {
				out = appendNumber(out, uid)
			}
			return out
		},
		read: func(c *cursor, e *api.Event) {
			for range c.count(api.MaxMails) {
				e.Uids = append(e.Uids, c.number())
			}
		},
		drop: func(e *api.Event) { e.Uids = nil },
	}
}

// markPart is the only mark of a new message, whose uid is told by First ahead of it.
func markPart() part {
	return part{
		holds: func(e *api.Event) bool {
			return len(e.Marks) == 1 && e.Marks[0].Uid == e.First && isForm(e.Marks[0].Flags)
		},
		write: func(out []byte, e *api.Event) []byte { return appendFlags(out, e.Marks[0].Flags) },
		read: func(c *cursor, e *api.Event) {
			e.Marks = []api.Mark{{Uid: e.First, Flags: c.flags()}}
		},
		drop: dropMarks,
	}
}

func marksPart() part {
	return part{
		holds: func(e *api.Event) bool {
			return rise(e.Marks, func(m api.Mark) int { return m.Uid }) &&
				!slices.ContainsFunc(e.Marks, func(m api.Mark) bool { return !isForm(m.Flags) })
		},
		write: func(out []byte, e *api.Event) []byte {
			out = appendNumber(out, len(e.Marks))
			for _, m := range e.Marks {
				out = appendFlags(appendNumber(out, m.Uid), m.Flags)
			}
			return out
		},
		read: func(c *cursor, e *api.Event) {
			for range c.count(api.MaxMails) {
				uid := c.number()
				e.Marks = append(e.Marks, api.Mark{Uid: uid, Flags: c.flags()})
			}
		},
		drop: dropMarks,
	}
}

func dropMarks(e *api.Event) { e.Marks = nil }

func datePart() part {
	return part{
		holds: func(e *api.Event) bool { return moment.Valid(e.Date) },
		write: func(out []byte, e *api.Event) []byte {
			for _, n := range plainFields(&e.Date) {
				out = appendNumber(out, *n)
			}
			return appendNumber(out, e.Date.Zone+zoneShift)
		},
		read: func(c *cursor, e *api.Event) {
			for _, n := range plainFields(&e.Date) {
				*n = c.number()
			}
			e.Date.Zone = c.number() - zoneShift
		},
		drop: func(e *api.Event) { e.Date = api.Moment{} },
	}
}

// plainFields are those of a moment that are written as they are.
func plainFields(m *api.Moment) [6]*int {
	return [...]*int{&m.Year, &m.Month, &m.Day, &m.Hour, &m.Minute, &m.Second}
}

func isNumber(n int) bool { return n >= 1 && n < api.MaxNumber }

func isName(s string) bool {
	_, code := octet.Wire(s)
	return code == api.OK
}

func areNames(names []string) bool {
	for i, name := range names {
		if !isName(name) || name == inbox || slices.Contains(names[:i], name) {
			return false
		}
	}
	return len(names) > 0
}

// rise tells whether there are elements, whose numbers are those of a store and rise strictly.
func rise[E any](list []E, number func(x E) int) bool {
	ahead := 0
	for _, x := range list {
		n := number(x)
		if n <= ahead || !isNumber(n) {
			return false
		}
		ahead = n
	}
	return len(list) > 0
}

func itself(n int) int { return n }

// goOn tells whether numbers rise one by one.
func goOn(list []int) bool {
	return rise(list, itself) && list[len(list)-1]-list[0] == len(list)-1
}

// hasRoom tells whether there is a uid for each copy, from First on.
func hasRoom(e *api.Event) bool {
	return isNumber(e.First) && isNumber(e.First+len(e.Uids)-1)
}
