package event_test

import (
	"encoding/binary"
	"reflect"
	"slices"
	"sort"
	"strings"
	"unicode/utf8"

	"postbag/api"
)

// What stands here says the chapter once more, in another make: the kinds one by one, numbers by the library, no event written again.

var systemOrder = []string{`\Answered`, `\Deleted`, `\Draft`, `\Flagged`, `\Seen`}

func slowIsKeyword(s string) bool {
	const letters = "!#$&'+,-./0123456789:;<=>?@ABCDEFGHIJKLMNOPQRSTUVWXYZ^_`abcdefghijklmnopqrstuvwxyz|~"
	return s != "" && len(s) <= 24 && strings.Trim(s, letters) == ""
}

// slowFlags asks for each flag that there may be whether it was given.
func slowFlags(flags []string) ([]string, api.Errno) {
	if len(flags) > 16 {
		return nil, api.ErrLong
	}
	system := map[string]bool{}
	first := map[string]string{}
	for _, f := range flags {
		small := strings.ToLower(f)
		switch _, there := first[small]; {
		case slices.Contains([]string{`\answered`, `\deleted`, `\draft`, `\flagged`, `\seen`}, small):
			system[small] = true
		case !slowIsKeyword(f):
			return nil, api.ErrMark
		case !there:
			first[small] = f
		}
	}
	var out, smalls []string
	for _, f := range systemOrder {
		if system[strings.ToLower(f)] {
			out = append(out, f)
		}
	}
	for small := range first {
		smalls = append(smalls, small)
	}
	sort.Strings(smalls)
	for _, small := range smalls {
		out = append(out, first[small])
	}
	return out, api.OK
}

func slowIsName(s string) bool {
	levels := strings.Split(s, "/")
	if !utf8.ValidString(s) || len(levels) > 6 || strings.EqualFold(levels[0], "inbox") && levels[0] != "INBOX" {
		return false
	}
	for _, level := range levels {
		if level == "" || len(level) > 32 || strings.ContainsAny(level, "%*\x7f") {
			return false
		}
		for _, b := range []byte(level) {
			if b < 32 {
				return false
			}
		}
	}
	return true
}

func slowIsDate(m api.Moment) bool {
	lengths := []int{0, 31, 28, 31, 30, 31, 30, 31, 31, 30, 31, 30, 31}
	if m.Year%4 == 0 && m.Year%100 != 0 || m.Year%400 == 0 {
		lengths[2] = 29
	}
	return 1 <= m.Year && m.Year <= 9999 && 1 <= m.Month && m.Month <= 12 && 1 <= m.Day && m.Day <= lengths[m.Month] &&
		0 <= m.Hour && m.Hour <= 23 && 0 <= m.Minute && m.Minute <= 59 && 0 <= m.Second && m.Second <= 59 &&
		-1439 <= m.Zone && m.Zone <= 1439
}

func slowIsNumber(n int) bool { return 1 <= n && n <= 4294967294 }

func slowIsForm(flags []string) bool {
	form, code := slowFlags(flags)
	if code != api.OK || strings.Join(form, " ") != strings.Join(flags, " ") {
		return false
	}
	keywords := 0
	for _, f := range flags {
		if f[0] != '\\' {
			keywords++
		}
	}
	return keywords <= 8
}

// slowRise: strictly rising numbers of a store, by steps of at most step.
func slowRise(list []int, step int) bool {
	for i, n := range list {
		if !slowIsNumber(n) || i > 0 && (n <= list[i-1] || n-list[i-1] > step) {
			return false
		}
	}
	return len(list) > 0
}

func slowNames(e api.Event) bool {
	for i, a := range e.Names {
		for _, b := range e.Names[i+1:] {
			if a == b {
				return false
			}
		}
		if !slowIsName(a) || a == "INBOX" {
			return false
		}
	}
	return len(e.Names) == len(e.Boxes) && slowRise(e.Boxes, 1)
}

func slowMarks(marks []api.Mark) bool {
	var uids []int
	for _, m := range marks {
		uids = append(uids, m.Uid)
		if !slowIsForm(m.Flags) {
			return false
		}
	}
	return slowRise(uids, api.MaxNumber)
}

// just is an event with some of another's fields alone.
func just(e api.Event, fields ...string) api.Event {
	out := api.Event{Number: e.Number, Kind: e.Kind}
	for _, f := range fields {
		reflect.ValueOf(&out).Elem().FieldByName(f).Set(reflect.ValueOf(e).FieldByName(f))
	}
	return out
}

// fieldsOf are the fields of a kind.
func fieldsOf(kind int) []string {
	switch kind {
	case api.EventMake:
		return []string{"Names", "Boxes"}
	case api.EventDrop:
		return []string{"Box"}
	case api.EventRename, api.EventInbox:
		return []string{"Box", "Names", "Boxes"}
	case api.EventAdd:
		return []string{"Box", "First", "Marks", "Date", "Body"}
	case api.EventFlags:
		return []string{"Box", "Marks"}
	case api.EventExpunge:
		return []string{"Box", "Uids"}
	case api.EventCopy, api.EventMove:
		return []string{"Box", "To", "First", "Uids"}
	case api.EventSubscribe, api.EventUnsubscribe:
		return []string{"Name"}
	}
	return nil
}

func slowHolds(e api.Event) bool {
	box := slowIsNumber(e.Box)
	switch e.Kind {
	case api.EventMake:
		return slowNames(e)
	case api.EventDrop:
		return box
	case api.EventRename, api.EventInbox:
		return box && slowNames(e)
	case api.EventAdd:
		return box && slowMarks(e.Marks) && len(e.Marks) == 1 && e.Marks[0].Uid == e.First && slowIsDate(e.Date)
	case api.EventFlags:
		return box && slowMarks(e.Marks)
	case api.EventExpunge:
		return box && slowRise(e.Uids, api.MaxNumber)
	case api.EventCopy, api.EventMove:
		return box && slowIsNumber(e.To) && slowIsNumber(e.First) && slowRise(e.Uids, api.MaxNumber) && 4294967294-e.First >= len(e.Uids)-1
	case api.EventSubscribe, api.EventUnsubscribe:
		return slowIsName(e.Name)
	}
	return false
}

func slowCheck(e api.Event) api.Errno {
	if len(e.Names) > 16 || len(e.Boxes) > 16 || len(e.Uids) > 64 || len(e.Marks) > 64 || len(e.Body) > 16384 {
		return api.ErrLong
	}
	for _, m := range e.Marks {
		if len(m.Flags) > 16 {
			return api.ErrLong
		}
	}
	if e.Number < 2 || !slowIsNumber(e.Number) || !slowHolds(e) || !same(e, just(e, fieldsOf(e.Kind)...)) {
		return api.ErrEvent
	}
	return api.OK
}

func n(numbers ...int) string {
	var out []byte
	for _, v := range numbers {
		out = binary.AppendUvarint(out, uint64(v))
	}
	return string(out)
}

func text(texts ...string) string {
	out := ""
	for _, s := range texts {
		out += n(len(s)) + s
	}
	return out
}

func slowFlagBytes(flags []string) string {
	system, at := 0, 0
	for ; at < len(flags) && flags[at][0] == '\\'; at++ {
		system += 1 << slices.Index(systemOrder, flags[at])
	}
	return n(system, len(flags)-at) + text(flags[at:]...)
}

func slowNameBytes(e api.Event) string {
	return n(len(e.Names)) + text(e.Names...) + n(e.Boxes[0])
}

func slowUidBytes(e api.Event) string { return n(len(e.Uids)) + n(e.Uids...) }

// slowBytes is for an event that may be.
func slowBytes(e api.Event) string {
	ahead := n(e.Kind, e.Number)
	switch e.Kind {
	case api.EventMake:
		return ahead + slowNameBytes(e)
	case api.EventDrop:
		return ahead + n(e.Box)
	case api.EventRename, api.EventInbox:
		return ahead + n(e.Box) + slowNameBytes(e)
	case api.EventAdd:
		d := e.Date
		date := n(d.Year, d.Month, d.Day, d.Hour, d.Minute, d.Second, d.Zone+1440)
		return ahead + n(e.Box, e.First) + slowFlagBytes(e.Marks[0].Flags) + date + text(e.Body)
	case api.EventFlags:
		ahead += n(e.Box, len(e.Marks))
		for _, m := range e.Marks {
			ahead += n(m.Uid) + slowFlagBytes(m.Flags)
		}
		return ahead
	case api.EventExpunge:
		return ahead + n(e.Box) + slowUidBytes(e)
	case api.EventCopy, api.EventMove:
		return ahead + n(e.Box, e.To, e.First) + slowUidBytes(e)
	}
	return ahead + text(e.Name)
}

// reader goes on behind a fault, which it keeps; then all that it reads is nothing.
type reader struct {
	rest  string
	fault bool
}

func (r *reader) cut(length int) string {
	if r.fault || length < 0 || length > len(r.rest) {
		r.fault = true
		return ""
	}
	s := r.rest[:length]
	r.rest = r.rest[length:]
	return s
}

func (r *reader) n() int {
	v, length := binary.Uvarint([]byte(r.rest[:min(len(r.rest), 11)]))
	if length <= 0 || length > 1 && r.rest[length-1] == 0 || v > 1<<62 {
		r.fault = true
		return 0
	}
	r.cut(length)
	return int(v)
}

func (r *reader) text() string { return r.cut(r.n()) }

func (r *reader) many(one func()) {
	for i := r.n(); i > 0 && !r.fault; i-- {
		one()
	}
}

func (r *reader) flags() []string {
	var out []string
	system := r.n()
	r.fault = r.fault || system > 31
	for i, f := range systemOrder {
		if system>>i%2 == 1 {
			out = append(out, f)
		}
	}
	r.many(func() {
		keyword := r.text()
		r.fault = r.fault || strings.HasPrefix(keyword, `\`)
		out = append(out, keyword)
	})
	return out
}

func (r *reader) names(e *api.Event) {
	r.many(func() { e.Names = append(e.Names, r.text()) })
	box := r.n()
	for i := range e.Names {
		e.Boxes = append(e.Boxes, box+i)
	}
}

func (r *reader) uids(e *api.Event) {
	r.many(func() { e.Uids = append(e.Uids, r.n()) })
}

func (r *reader) event() api.Event {
	e := api.Event{Kind: r.n(), Number: r.n()}
	switch e.Kind {
	case api.EventMake:
		r.names(&e)
	case api.EventDrop:
		e.Box = r.n()
	case api.EventRename, api.EventInbox:
		e.Box = r.n()
		r.names(&e)
	case api.EventAdd:
		e.Box, e.First = r.n(), r.n()
		e.Marks = []api.Mark{{Uid: e.First, Flags: r.flags()}}
		e.Date = api.Moment{Year: r.n(), Month: r.n(), Day: r.n(), Hour: r.n(), Minute: r.n(), Second: r.n(), Zone: r.n() - 1440}
		e.Body = r.text()
	case api.EventFlags:
		e.Box = r.n()
		r.many(func() { e.Marks = append(e.Marks, api.Mark{Uid: r.n(), Flags: r.flags()}) })
	case api.EventExpunge:
		e.Box = r.n()
		r.uids(&e)
	case api.EventCopy, api.EventMove:
		e.Box, e.To, e.First = r.n(), r.n(), r.n()
		r.uids(&e)
	case api.EventSubscribe, api.EventUnsubscribe:
		e.Name = r.text()
	}
	return e
}

func slowDecode(s string) (api.Event, api.Errno) {
	if len(s) > 2097152 {
		return api.Event{}, api.ErrLong
	}
	r := reader{rest: s}
	e := r.event()
	if r.fault || r.rest != "" || slowCheck(e) != api.OK {
		return api.Event{}, api.ErrBytes
	}
	return e, api.OK
}
