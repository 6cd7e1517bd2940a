package store_test

import (
	"encoding/binary"
	"fmt"
	"maps"
	"slices"
	"sort"
	"strings"
	"unicode/utf8"

	"postbag/api"
)

// What stands here says the chapter once more, in another make: mailboxes by name, flags as lists of texts, a plan's limits asked of a copy behind its event, no text written again.

type slowMail struct {
	uid, modseq, origin int
	flags               []string
	date                api.Moment
	body                string
}

type slowBox struct {
	validity, next, highest int
	mails                   []slowMail
}

// slow is a store; without a mailbox it is one of nothing.
type slow struct {
	first, validity, last int
	boxes                 map[string]*slowBox
	subs                  map[string]bool
}

func slowNew(validity, uid, number int) *slow {
	return &slow{uid, validity + 1, number - 1, map[string]*slowBox{"INBOX": {validity: validity, next: uid, highest: number - 1}}, map[string]bool{}}
}

func (m *slow) copy() *slow {
	out := *m
	out.boxes, out.subs = map[string]*slowBox{}, maps.Clone(m.subs)
	for name, b := range m.boxes {
		own := *b
		own.mails = slices.Clone(b.mails)
		out.boxes[name] = &own
	}
	return &out
}

func (m *slow) names() []string { return slices.Sorted(maps.Keys(m.boxes)) }

// by is the name of the mailbox with a validity; the empty text, which no mailbox has, if there is none.
func (m *slow) by(validity int) string {
	for name, b := range m.boxes {
		if b.validity == validity {
			return name
		}
	}
	return ""
}

func slowName(s string) (string, bool) {
	levels := strings.Split(s, "/")
	if strings.EqualFold(levels[0], "inbox") && len(levels[0]) == 5 {
		levels[0] = "INBOX"
	}
	s = strings.Join(levels, "/")
	for _, level := range levels {
		if level == "" || len(level) > 32 || strings.ContainsAny(level, "%*\x7f") {
			return s, false
		}
		for _, b := range []byte(level) {
			if b < 32 {
				return s, false
			}
		}
	}
	return s, utf8.ValidString(s) && len(levels) <= 6
}

func slowIsDate(m api.Moment) bool {
	lengths := []int{0, 31, 28, 31, 30, 31, 30, 31, 31, 30, 31, 30, 31}
	if m.Year%4 == 0 && m.Year%100 != 0 || m.Year%400 == 0 {
		lengths[2] = 29
	}
	return 1 <= m.Year && m.Year <= 9999 && 1 <= m.Month && m.Month <= 12 && 1 <= m.Day && m.Day <= lengths[m.Month] &&
		0 <= m.Hour && m.Hour < 24 && 0 <= m.Minute && m.Minute < 60 && 0 <= m.Second && m.Second < 60 && -1440 < m.Zone && m.Zone < 1440
}

func isSystem(flag string) bool { return strings.HasPrefix(flag, `\`) }

// slowForm is flags in their one form; the first spelling stays.
func slowForm(flags []string) []string {
	var out []string
	for _, name := range []string{`\Answered`, `\Deleted`, `\Draft`, `\Flagged`, `\Seen`} {
		if slices.ContainsFunc(flags, func(f string) bool { return strings.EqualFold(f, name) }) {
			out = append(out, name)
		}
	}
	first := map[string]string{}
	for _, f := range flags {
		if _, there := first[strings.ToLower(f)]; !there && !isSystem(f) {
			first[strings.ToLower(f)] = f
		}
	}
	for _, small := range slices.Sorted(maps.Keys(first)) {
		out = append(out, first[small])
	}
	return out
}

func slowAreFlags(flags []string) bool {
	for _, f := range flags {
		const letters = "!#$&'+,-./0123456789:;<=>?@ABCDEFGHIJKLMNOPQRSTUVWXYZ^_`abcdefghijklmnopqrstuvwxyz|~"
		system := slices.Contains([]string{`\answered`, `\deleted`, `\draft`, `\flagged`, `\seen`}, strings.ToLower(f))
		if !system && (f == "" || len(f) > 24 || strings.Trim(f, letters) != "") {
			return false
		}
	}
	return true
}

// knows is the spelling of each keyword, by its small letters.
func (b *slowBox) knows() map[string]string {
	out := map[string]string{}
	for _, m := range b.mails {
		for _, f := range m.flags {
			if !isSystem(f) {
				out[strings.ToLower(f)] = f
			}
		}
	}
	return out
}

func spell(known map[string]string, flags []string) []string {
	var out []string
	for _, f := range flags {
		if as, is := known[strings.ToLower(f)]; is {
			f = as
		}
		out = append(out, f)
	}
	return out
}

func (b *slowBox) mail(uid int) *slowMail {
	for i := range b.mails {
		if b.mails[i].uid == uid {
			return &b.mails[i]
		}
	}
	return nil
}

func (b *slowBox) has(uids []int) bool {
	for i, uid := range uids {
		if b.mail(uid) == nil || i > 0 && uids[i-1] >= uid {
			return false
		}
	}
	return true
}

// plan is what a plan must answer.
func (m *slow) plan(a ask) answer {
	if code := slowArguments(a); code != api.OK {
		return answer{code: code}
	}
	if len(m.boxes) == 0 {
		if a.plan == toMake {
			return answer{code: api.ErrLimit}
		}
		return answer{code: api.ErrBox}
	}
	out := m.wanted(a)
	if out.code != api.OK || out.e.Kind == 0 {
		return out
	}
	out.e.Number = m.last + 1
	behind := m.copy()
	behind.apply(out.e)
	if behind.isFull() {
		return answer{code: api.ErrLimit}
	}
	if behind.isPast() {
		return answer{code: api.ErrEnd}
	}
	return out
}

// slowArguments is what the arguments alone decide.
func slowArguments(a ask) api.Errno {
	name, isName := slowName(a.name)
	to, isTo := slowName(a.to)
	takesUids := slices.Contains([]string{toFlag, toExpunge, toCopy, toMove}, a.plan)
	takesFlags := a.plan == toAdd || a.plan == toFlag
	switch {
	case takesUids && len(a.uids) > 64, takesFlags && len(a.flags) > 16, a.plan == toAdd && len(a.body) > 16384:
		return api.ErrLong
	case a.plan == toMake && (!isName || name == "INBOX"):
		return api.ErrCannot
	case a.plan == toDrop && name == "INBOX":
		return api.ErrCannot
	case a.plan == toRename && (!isTo || to == "INBOX" || strings.HasPrefix(to, name+"/")):
		return api.ErrCannot
	case (a.plan == toAdd || a.plan == toCopy || a.plan == toMove) && !isName:
		return api.ErrCannot
	case a.plan == toFlag && !slices.Contains([]int{0, 1, -1}, a.mode):
		return api.ErrArg
	case takesFlags && !slowAreFlags(a.flags):
		return api.ErrMark
	case a.plan == toAdd && !slowIsDate(a.date):
		return api.ErrArg
	case a.plan == toFlag && (a.unchanged < -1 || a.unchanged > api.MaxNumber):
		return api.ErrNumber
	}
	return api.OK
}

// wanted is a plan's event, not asked for limits and ends.
func (m *slow) wanted(a ask) answer {
	name, _ := slowName(a.name)
	there := m.boxes[name] // nil, if it is no name
	box := m.boxes[m.by(a.box)]
	refuse := func(code api.Errno) answer { return answer{code: code} }
	switch a.plan {
	case toMake:
		if there != nil {
			return refuse(api.ErrThere)
		}
		return answer{e: m.gives(api.Event{Kind: api.EventMake, Names: m.withSuperiors(name)})}
	case toDrop:
		if there == nil {
			return refuse(api.ErrBox)
		}
		for other := range m.boxes {
			if strings.HasPrefix(other, name+"/") {
				return refuse(api.ErrInferior)
			}
		}
		return answer{e: api.Event{Kind: api.EventDrop, Box: there.validity}}
	case toRename:
		return m.wantedRename(name, a.to)
	case toAdd:
		if there == nil {
			return refuse(api.ErrBox)
		}
		mark := api.Mark{Uid: there.next, Flags: spell(there.knows(), slowForm(a.flags))}
		return answer{e: api.Event{Kind: api.EventAdd, Box: there.validity, First: there.next, Marks: []api.Mark{mark}, Date: a.date, Body: a.body}}
	case toSubscribe:
		if there == nil {
			return refuse(api.ErrBox)
		}
		if m.subs[name] {
			return answer{}
		}
		return answer{e: api.Event{Kind: api.EventSubscribe, Name: name}}
	case toUnsubscribe:
		if _, is := slowName(a.name); !is {
			return refuse(api.ErrBox)
		}
		if !m.subs[name] {
			return answer{}
		}
		return answer{e: api.Event{Kind: api.EventUnsubscribe, Name: name}}
	}
	carries := a.plan == toCopy || a.plan == toMove
	if box == nil || carries && there == nil {
		return refuse(api.ErrBox)
	}
	if !box.has(a.uids) {
		return refuse(api.ErrUid)
	}
	if len(a.uids) == 0 {
		return answer{}
	}
	e := api.Event{Kind: api.EventExpunge, Box: a.box, Uids: a.uids}
	if a.plan == toFlag {
		return box.wantedFlags(a)
	}
	if carries {
		e.Kind, e.To, e.First = map[string]int{toCopy: api.EventCopy, toMove: api.EventMove}[a.plan], there.validity, there.next
	}
	return answer{e: e}
}

func (m *slow) wantedRename(from, to string) answer {
	to, _ = slowName(to)
	e := api.Event{Kind: api.EventRename, Names: m.withSuperiors(to)}
	for _, name := range m.names() {
		if from != "INBOX" && strings.HasPrefix(name, from+"/") {
			renamed := to + strings.TrimPrefix(name, from)
			if _, is := slowName(renamed); !is {
				return answer{code: api.ErrCannot}
			}
			e.Names = append(e.Names, renamed)
		}
	}
	if m.boxes[from] == nil {
		return answer{code: api.ErrBox}
	}
	if m.boxes[to] != nil {
		return answer{code: api.ErrThere}
	}
	e.Box = m.boxes[from].validity
	if from == "INBOX" {
		e.Kind = api.EventInbox
	}
	return answer{e: m.gives(e)}
}

// withSuperiors is a name behind those of its superiors that lack.
func (m *slow) withSuperiors(name string) []string {
	var out []string
	levels := strings.Split(name, "/")
	for n := 1; n < len(levels); n++ {
		if superior := strings.Join(levels[:n], "/"); m.boxes[superior] == nil {
			out = append(out, superior)
		}
	}
	return append(out, name)
}

func (m *slow) gives(e api.Event) api.Event {
	for i := range e.Names {
		e.Boxes = append(e.Boxes, m.validity+i)
	}
	return e
}

func (b *slowBox) wantedFlags(a ask) answer {
	out := answer{}
	known := b.knows()
	for _, uid := range a.uids {
		m := b.mail(uid)
		if a.unchanged != -1 && m.modseq > a.unchanged {
			out.left = append(out.left, uid)
			continue
		}
		var turned []string
		switch a.mode {
		case 0:
			turned = a.flags
		case 1:
			turned = append(slices.Clone(m.flags), a.flags...)
		case -1:
			for _, f := range m.flags {
				if !slices.ContainsFunc(a.flags, func(g string) bool { return strings.EqualFold(f, g) }) {
					turned = append(turned, f)
				}
			}
		}
		if turned = spell(known, slowForm(turned)); !slices.Equal(turned, m.flags) {
			out.e.Marks = append(out.e.Marks, api.Mark{Uid: uid, Flags: turned})
		}
	}
	if len(out.e.Marks) > 0 {
		out.e.Kind, out.e.Box = api.EventFlags, a.box
	}
	return out
}

func (m *slow) isFull() bool {
	for _, b := range m.boxes {
		if len(b.mails) > 64 || len(b.knows()) > 8 {
			return true
		}
	}
	return len(m.boxes) > 16 || len(m.subs) > 32
}

// isPast tells whether a number stands behind an event that none may be.
func (m *slow) isPast() bool {
	past := m.last > end || m.validity > end+1
	for _, b := range m.boxes {
		past = past || b.next > end+1
	}
	return past
}

// apply does what the chapter's table says of an event that may be.
func (m *slow) apply(e api.Event) {
	n := e.Number
	name := m.by(e.Box)
	box := m.boxes[name]
	switch e.Kind {
	case api.EventMake, api.EventInbox:
		for i, made := range e.Names {
			m.boxes[made] = &slowBox{validity: e.Boxes[i], next: m.first, highest: n}
		}
		if e.Kind == api.EventInbox {
			to := m.boxes[e.Names[len(e.Names)-1]]
			to.next = box.next
			for _, mail := range box.mails {
				mail.modseq = n
				to.mails = append(to.mails, mail)
			}
			box.mails, box.highest = nil, n
		}
	case api.EventDrop:
		delete(m.boxes, name)
	case api.EventRename:
		m.applyRename(e, name)
	case api.EventAdd:
		box.mails = append(box.mails, slowMail{e.First, n, n, slices.Clone(e.Marks[0].Flags), e.Date, e.Body})
		box.next, box.highest = e.First+1, n
	case api.EventFlags:
		for _, mark := range e.Marks {
			mail := box.mail(mark.Uid)
			mail.flags, mail.modseq = slices.Clone(mark.Flags), n
		}
		box.highest = n
	case api.EventExpunge:
		box.expunge(e)
	case api.EventCopy, api.EventMove:
		to := m.boxes[m.by(e.To)]
		known := to.knows()
		for _, uid := range e.Uids {
			mail := *box.mail(uid)
			mail.flags = spell(known, mail.flags)
			for _, f := range mail.flags {
				if !isSystem(f) {
					known[strings.ToLower(f)] = f
				}
			}
			mail.uid, mail.modseq = to.next, n
			to.mails = append(to.mails, mail)
			to.next++
		}
		to.highest = n
		if e.Kind == api.EventMove {
			box.expunge(e)
		}
	case api.EventSubscribe:
		m.subs[e.Name] = true
	case api.EventUnsubscribe:
		delete(m.subs, e.Name)
	}
	m.last = n
	m.validity += len(e.Boxes)
}

func (b *slowBox) expunge(e api.Event) {
	var rest []slowMail
	for _, mail := range b.mails {
		if !slices.Contains(e.Uids, mail.uid) {
			rest = append(rest, mail)
		}
	}
	b.mails, b.highest = rest, e.Number
}

func (m *slow) applyRename(e api.Event, from string) {
	old := []string{from}
	for _, name := range m.names() {
		if strings.HasPrefix(name, from+"/") {
			old = append(old, name)
		}
	}
	for i, name := range e.Names {
		box := &slowBox{next: m.first}
		if at := i - (len(e.Names) - len(old)); at >= 0 {
			box = m.boxes[old[at]]
			delete(m.boxes, old[at])
		}
		box.validity, box.highest = e.Boxes[i], e.Number
		m.boxes[name] = box
	}
}

// may tells whether an event may be the next one.
func (m *slow) may(e api.Event) bool {
	last := ""
	if len(e.Names) > 0 {
		last = e.Names[len(e.Names)-1]
	}
	var asks []ask
	switch e.Kind {
	case api.EventMake:
		asks = []ask{makes(last)}
	case api.EventDrop:
		asks = []ask{drops(m.by(e.Box))}
	case api.EventRename:
		for _, to := range e.Names {
			asks = append(asks, renames(m.by(e.Box), to))
		}
	case api.EventInbox:
		asks = []ask{renames("INBOX", last)}
	case api.EventAdd:
		if len(e.Marks) == 1 {
			asks = []ask{{plan: toAdd, name: m.by(e.Box), flags: e.Marks[0].Flags, date: e.Date, body: e.Body}}
		}
	case api.EventFlags:
		return m.mayFlags(e)
	case api.EventExpunge:
		asks = []ask{expunges(e.Box, e.Uids...)}
	case api.EventCopy:
		asks = []ask{copies(e.Box, m.by(e.To), e.Uids...)}
	case api.EventMove:
		asks = []ask{moves(e.Box, m.by(e.To), e.Uids...)}
	case api.EventSubscribe:
		asks = []ask{subscribes(e.Name)}
	case api.EventUnsubscribe:
		asks = []ask{unsubscribes(e.Name)}
	}
	return slices.ContainsFunc(asks, func(a ask) bool {
		got := m.plan(a)
		return got.code == api.OK && same(got.e, e)
	})
}

func (m *slow) mayFlags(e api.Event) bool {
	box := m.boxes[m.by(e.Box)]
	just := api.Event{Number: m.last + 1, Kind: api.EventFlags, Box: e.Box, Marks: e.Marks}
	if box == nil || !same(e, just) || e.Number > end || len(e.Marks) < 1 || len(e.Marks) > 64 {
		return false
	}
	known := box.knows()
	others := map[string]string{}
	var uids []int
	for _, mark := range e.Marks {
		mail := box.mail(mark.Uid)
		if mail == nil || !slowAreFlags(mark.Flags) || !slices.Equal(slowForm(mark.Flags), mark.Flags) || slices.Equal(mark.Flags, mail.flags) || !slices.Equal(spell(known, mark.Flags), mark.Flags) {
			return false
		}
		for _, f := range mark.Flags {
			small := strings.ToLower(f)
			if other, is := others[small]; is && other != f {
				return false
			}
			if !isSystem(f) && known[small] == "" {
				others[small] = f
			}
		}
		uids = append(uids, mark.Uid)
	}
	if !box.has(uids) {
		return false
	}
	behind := m.copy()
	behind.apply(e)
	return !behind.isFull()
}

// told is what told says of a store.
func (m *slow) told() string {
	var out strings.Builder
	for _, name := range m.names() {
		b := m.boxes[name]
		unseen := 0
		for _, mail := range b.mails {
			if !slices.Contains(mail.flags, `\Seen`) {
				unseen++
			}
		}
		var known []string
		for _, word := range b.knows() {
			known = append(known, word)
		}
		sort.Slice(known, func(i, j int) bool { return strings.ToLower(known[i]) < strings.ToLower(known[j]) })
		fmt.Fprintf(&out, "%q %d next %d highest %d count %d unseen %d %v", name, b.validity, b.next, b.highest, len(b.mails), unseen, known)
		if m.subs[name] {
			out.WriteString(" subscribed")
		}
		out.WriteString("\n")
		for i, mail := range b.mails {
			fmt.Fprintf(&out, "  %d: uid %d modseq %d %v false %v %.40q %d\n", i+1, mail.uid, mail.modseq, mail.flags, mail.date, mail.body, len(mail.body))
		}
	}
	fmt.Fprintf(&out, "%q last %d", slices.Sorted(maps.Keys(m.subs)), m.last)
	return out.String()
}

// ice writes a frozen store; what is put into it need not be right. The number at the place padded is written one byte too long.
type ice struct {
	out    []byte
	count  int
	padded int
}

func (w *ice) n(numbers ...int) {
	for _, n := range numbers {
		w.count++
		w.out = binary.AppendUvarint(w.out, uint64(n))
		if w.count == w.padded {
			w.out[len(w.out)-1] |= 128
			w.out = append(w.out, 0)
		}
	}
}

func (w *ice) t(text string) {
	w.n(len(text))
	w.out = append(w.out, text...)
}

var systemBits = map[string]int{`\Answered`: 1, `\Deleted`: 2, `\Draft`: 4, `\Flagged`: 8, `\Seen`: 16}

// freeze is the frozen store.
func (m *slow) freeze() string { return m.cold().write(-1) }

// cold is a frozen store as a tree.
type cold struct {
	first, validity, last int
	bodies                []coldBody
	boxes                 []coldBox
	names                 []string
}

type coldBody struct {
	origin int
	body   string
}

type coldBox struct {
	name                    string
	validity, next, highest int
	mails                   []coldMail
}

type coldMail struct {
	uid, modseq, origin int
	date                api.Moment
	system              int
	words               []string
}

func (m *slow) cold() *cold {
	out := &cold{first: m.first, validity: m.validity, last: m.last, names: slices.Sorted(maps.Keys(m.subs))}
	bodies := map[int]string{}
	for _, name := range m.names() {
		b := m.boxes[name]
		box := coldBox{name, b.validity, b.next, b.highest, nil}
		for _, mail := range b.mails {
			bodies[mail.origin] = mail.body
			frozen := coldMail{uid: mail.uid, modseq: mail.modseq, origin: mail.origin, date: mail.date}
			for _, f := range mail.flags {
				if frozen.system += systemBits[f]; !isSystem(f) {
					frozen.words = append(frozen.words, f)
				}
			}
			box.mails = append(box.mails, frozen)
		}
		out.boxes = append(out.boxes, box)
	}
	for _, origin := range slices.Sorted(maps.Keys(bodies)) {
		out.bodies = append(out.bodies, coldBody{origin, bodies[origin]})
	}
	return out
}

// write writes a tree as it is, with one number padded (none at -1).
func (c *cold) write(padded int) string {
	w := &ice{padded: padded}
	w.n(c.first, c.validity, c.last, len(c.bodies))
	for _, b := range c.bodies {
		w.n(b.origin)
		w.t(b.body)
	}
	w.n(len(c.boxes))
	for _, b := range c.boxes {
		w.t(b.name)
		w.n(b.validity, b.next, b.highest, len(b.mails))
		for _, m := range b.mails {
			w.n(m.uid, m.modseq, m.origin, m.date.Year, m.date.Month, m.date.Day, m.date.Hour, m.date.Minute, m.date.Second, m.date.Zone+1440, m.system, len(m.words))
			for _, word := range m.words {
				w.t(word)
			}
		}
	}
	w.n(len(c.names))
	for _, name := range c.names {
		w.t(name)
	}
	return string(w.out)
}

// melt reads a frozen store strictly; it is over at the first fault.
type melt struct {
	rest string
	bad  bool
}

func (r *melt) n() int {
	v, size := binary.Uvarint([]byte(r.rest[:min(len(r.rest), 10)]))
	if size <= 0 || v > 1<<40 || len(binary.AppendUvarint(nil, v)) != size {
		r.bad = true
		return 0
	}
	r.rest = r.rest[size:]
	return int(v)
}

func (r *melt) many() int {
	n := r.n()
	if n > len(r.rest) { // each element takes a byte
		r.bad = true
		return 0
	}
	return n
}

func (r *melt) t() string {
	n := r.many()
	out := r.rest[:n]
	r.rest = r.rest[n:]
	return out
}

// slowThaw is the tree of a frozen store, and whether the text is one.
func slowThaw(text string) (*cold, bool) {
	r := &melt{rest: text}
	c := &cold{first: r.n(), validity: r.n(), last: r.n()}
	for n := r.many(); n > 0 && !r.bad; n-- {
		c.bodies = append(c.bodies, coldBody{r.n(), r.t()})
	}
	for n := r.many(); n > 0 && !r.bad; n-- {
		box := coldBox{name: r.t(), validity: r.n(), next: r.n(), highest: r.n()}
		for n := r.many(); n > 0 && !r.bad; n-- {
			m := coldMail{uid: r.n(), modseq: r.n(), origin: r.n(), date: api.Moment{Year: r.n(), Month: r.n(), Day: r.n(), Hour: r.n(), Minute: r.n(), Second: r.n(), Zone: r.n() - 1440}, system: r.n()}
			for n := r.many(); n > 0 && !r.bad; n-- {
				m.words = append(m.words, r.t())
			}
			box.mails = append(box.mails, m)
		}
		c.boxes = append(c.boxes, box)
	}
	for n := r.many(); n > 0 && !r.bad; n-- {
		c.names = append(c.names, r.t())
	}
	if r.bad || r.rest != "" || !c.holds() {
		return nil, false
	}
	return c, true
}

func within(n, least, most int) bool { return least <= n && n <= most }

// holds is the rules of a frozen store, one by one.
func (c *cold) holds() bool {
	ok := within(c.first, 1, end) && within(c.last, 1, end) && c.validity <= end+1 && len(c.boxes) <= 16 && slowNames(c.names) && len(c.names) <= 32
	var names []string
	validities := map[int]bool{}
	bodies := map[int]string{}
	used := map[int]bool{}
	for i, b := range c.bodies {
		ok = ok && (i == 0 || c.bodies[i-1].origin < b.origin) && len(b.body) <= 16384
		bodies[b.origin] = b.body
	}
	for _, b := range c.boxes {
		ok = ok && !validities[b.validity] && within(b.validity, 1, c.validity-1) && b.highest <= c.last && b.holds()
		validities[b.validity] = true
		for i := range b.name {
			ok = ok && (b.name[i] != '/' || slices.Contains(names, b.name[:i]))
		}
		names = append(names, b.name)
		for _, m := range b.mails {
			_, is := bodies[m.origin]
			ok = ok && is
			used[m.origin] = true
		}
	}
	return ok && slowNames(names) && slices.Contains(names, "INBOX") && len(used) == len(c.bodies)
}

func slowNames(names []string) bool {
	for i, name := range names {
		if as, is := slowName(name); !is || as != name || i > 0 && names[i-1] >= name {
			return false
		}
	}
	return true
}

func (b *coldBox) holds() bool {
	ok := len(b.mails) <= 64 && within(b.next, 1, end+1) && b.highest >= 1
	known := map[string]string{}
	for i, m := range b.mails {
		ok = ok && within(m.uid, 1, b.next-1) && (i == 0 || b.mails[i-1].uid < m.uid) && within(m.modseq, 1, b.highest) &&
			within(m.origin, 2, m.modseq) && slowIsDate(m.date) && m.system < 32 && slowAreFlags(m.words) && slices.Equal(slowForm(m.words), m.words)
		for _, word := range m.words {
			small := strings.ToLower(word)
			ok = ok && !isSystem(word) && (known[small] == "" || known[small] == word)
			known[small] = word
		}
	}
	return ok && len(known) <= 8
}

// thaw is the store of a tree that holds.
func (c *cold) thaw() *slow {
	m := &slow{c.first, c.validity, c.last, map[string]*slowBox{}, map[string]bool{}}
	bodies := map[int]string{}
	for _, b := range c.bodies {
		bodies[b.origin] = b.body
	}
	for _, b := range c.boxes {
		box := &slowBox{validity: b.validity, next: b.next, highest: b.highest}
		for _, mail := range b.mails {
			var flags []string
			for flag, bit := range systemBits {
				if mail.system&bit != 0 {
					flags = append(flags, flag)
				}
			}
			box.mails = append(box.mails, slowMail{mail.uid, mail.modseq, mail.origin, slowForm(append(flags, mail.words...)), mail.date, bodies[mail.origin]})
		}
		m.boxes[b.name] = box
	}
	for _, name := range c.names {
		m.subs[name] = true
	}
	return m
}

// slowMatch asks of each place of the pattern and of the name, once.
func slowMatch(pattern, name string) bool {
	folds := name == "INBOX" || strings.HasPrefix(name, "INBOX/")
	seen := map[[2]int]bool{}
	var fits func(p, n int) bool
	fits = func(p, n int) bool {
		if p == len(pattern) {
			return n == len(name)
		}
		if seen[[2]int{p, n}] {
			return false
		}
		seen[[2]int{p, n}] = true
		c := pattern[p]
		if c == '*' || c == '%' {
			return fits(p+1, n) || n < len(name) && (c == '*' || name[n] != '/') && fits(p, n+1)
		}
		like := n < len(name) && (name[n] == c || folds && n < 5 && 'a' <= c && c <= 'z' && name[n] == c-32)
		return like && fits(p+1, n+1)
	}
	return fits(0, 0)
}
