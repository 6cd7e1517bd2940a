package session_test

import (
	"fmt"
	"maps"
	"slices"
	"strings"

	"postbag/answer"
	"postbag/api"
	"postbag/letter"
	"postbag/lex"
	"postbag/limb"
	"postbag/moment"
	"postbag/octet"
	"postbag/search"
	"postbag/store"
	"postbag/thread"
)

// world is what slow sessions have in common: a store of their own, who has which mailbox, what is nobody's.
type world struct {
	rules  api.Rules
	store  *store.Store
	held   map[int]int
	nobody map[int]int // by validity; what is not there is nobody's as a whole
	all    []*slow

	changed bool // by the command under way
}

func newWorld(rules api.Rules, sessions int) *world {
	w := &world{rules: rules, held: map[int]int{}, nobody: map[int]int{rules.Validity: rules.Uid}}
	w.store, _ = store.New(rules.Validity, rules.Uid, rules.Number)
	for range sessions {
		w.all = append(w.all, &slow{w: w, state: api.StateFresh})
	}
	return w
}

// slow is a session of another make: it tells lines, knows its mailbox by what differs in the store, and plans ahead what it does.
type slow struct {
	w            *world
	state        int
	box          int
	readOnly, on bool
	idle         string
	rows         []slowRow
	heard        []string
}

type slowRow struct {
	uid                       int
	told, gone, recent, waits bool
}

// deed is what comes of a command.
type deed struct {
	bad   bool
	no    string
	ahead []string
	event api.Event
	data  func(behind *store.Store) []string // by the store behind the event
	code  string
	then  func()
}

func said(lines ...string) func(*store.Store) []string {
	return func(*store.Store) []string { return lines }
}

func (w *world) mails(s *store.Store, box int) map[int]api.Mail {
	list, _ := s.Mails(box)
	out := map[int]api.Mail{}
	for _, m := range list {
		out[m.Uid] = m
	}
	return out
}

// commit applies an event; every session sees what differs in its mailbox then.
func (w *world) commit(e api.Event, by *slow) {
	before := map[*slow]map[int]api.Mail{}
	for _, s := range w.all {
		before[s] = w.mails(w.store, s.box)
	}
	if w.store.Apply(e) != api.OK {
		panic(fmt.Sprintf("%+v", e))
	}
	for _, s := range w.all {
		if s.state != api.StateSelected {
			continue
		}
		behind := w.mails(w.store, s.box)
		for i := range s.rows {
			was, is := before[s][s.rows[i].uid], behind[s.rows[i].uid]
			s.rows[i].gone = s.rows[i].gone || is.Uid == 0
			s.rows[i].waits = !s.rows[i].gone && (s.rows[i].waits || s.rows[i].told && s != by && was.Modseq != is.Modseq)
		}
		s.rows = slices.DeleteFunc(s.rows, func(r slowRow) bool { return r.gone && !r.told })
		for _, uid := range slices.Sorted(maps.Keys(behind)) {
			if before[s][uid].Uid == 0 {
				s.rows = append(s.rows, slowRow{uid: uid})
			}
		}
	}
	w.changed = true
}

// tellIdle tells those that idle what another one has done, behind that one's own answers.
func (w *world) tellIdle(by *slow) {
	for _, s := range w.all {
		if w.changed && s != by && s.idle != "" {
			s.heard = append(s.heard, s.news(true)...)
		}
	}
	w.changed = false
}

func (s *slow) claim() int {
	from := s.w.nobody[s.box]
	if !s.readOnly {
		box, _ := s.w.store.By(s.box)
		s.w.nobody[s.box] = box.Next
	}
	return from
}

func (s *slow) news(all bool) []string {
	if s.state != api.StateSelected {
		return nil
	}
	from := s.claim()
	var out []string
	for i := 0; all && i < len(s.rows); {
		if !s.rows[i].gone {
			i++
			continue
		}
		out = append(out, fmt.Sprintf("* %d EXPUNGE", i+1))
		s.rows = slices.Delete(s.rows, i, i+1)
	}
	fresh, recent := false, 0
	for i, r := range s.rows {
		if !r.told {
			fresh = true
			s.rows[i].told, s.rows[i].recent = true, r.uid >= from
		}
		if s.rows[i].recent {
			recent++
		}
	}
	if fresh {
		out = append(out, fmt.Sprintf("* %d EXISTS", len(s.rows)), fmt.Sprintf("* %d RECENT", recent))
	}
	mails := s.w.mails(s.w.store, s.box)
	for i, r := range s.rows {
		if r.waits {
			line := fmt.Sprintf("* %d FETCH (UID %d FLAGS %s", i+1, r.uid, shownFlags(mails[r.uid].Flags, r.recent))
			if s.on {
				line += fmt.Sprintf(" MODSEQ (%d)", mails[r.uid].Modseq)
			}
			out = append(out, line+")")
			s.rows[i].waits = false
		}
	}
	return out
}

func shownFlags(flags []string, recent bool) string {
	if recent {
		flags = append(slices.Clone(flags), `\Recent`)
	}
	return "(" + strings.Join(flags, " ") + ")"
}

func (s *slow) leave(state int) {
	if s.state == api.StateSelected {
		s.w.held[s.box]--
	}
	s.state, s.box, s.rows, s.readOnly = state, 0, nil, false
}

// take is what one input brings; isFull: the disk has no room for an event.
func (s *slow) take(in api.Input, isFull bool) []string {
	switch {
	case s.state == api.StateOver:
		return nil
	case s.idle != "":
		line := s.idle + " BAD IDLE is over"
		if in.Kind == api.InDone {
			line = s.idle + " OK IDLE done"
		}
		s.idle = ""
		return []string{line}
	case in.Kind == api.InContinue:
		return []string{"+ go ahead"}
	case in.Kind == api.InBad && in.Why == api.ErrNumber:
		s.leave(api.StateOver)
		return []string{"* BYE that is too much"}
	case in.Kind != api.InCommand:
		tag, text := in.Tag, bads()[in.Why]
		if tag == "" {
			tag = "*"
		}
		if text == "" {
			text = "no command"
		}
		return []string{tag + " BAD " + text}
	}
	return s.command(in.Command, isFull)
}

// slowVerbs are the verbs' names, by their numbers.
const slowVerbs = " CAPABILITY NOOP LOGOUT LOGIN SELECT EXAMINE CREATE DELETE RENAME SUBSCRIBE UNSUBSCRIBE LIST LSUB STATUS APPEND CHECK CLOSE UNSELECT EXPUNGE SEARCH FETCH STORE COPY MOVE SORT THREAD IDLE NAMESPACE ENABLE"

func (s *slow) command(c api.Command, isFull bool) []string {
	name := strings.Split(slowVerbs, " ")[c.Verb]
	isOneOf := func(names string) bool { return slices.Contains(strings.Fields(names), name) }
	switch {
	case isOneOf("CAPABILITY NOOP LOGOUT"):
	case isOneOf("LOGIN") && s.state == api.StateFresh:
	case isOneOf("CHECK CLOSE UNSELECT EXPUNGE SEARCH FETCH STORE COPY MOVE SORT THREAD") && s.state == api.StateSelected:
	case !isOneOf("LOGIN CHECK CLOSE UNSELECT EXPUNGE SEARCH FETCH STORE COPY MOVE SORT THREAD") && s.state != api.StateFresh:
	default:
		return []string{c.Tag + " " + notNow}
	}
	wasOn := s.on
	s.on = s.on || s.turnsOn(name, c)
	d := s.deedOf(name, c, wasOn)
	if d.bad {
		return []string{c.Tag + " " + noSuch}
	}
	if d.no == "" && d.event.Kind != 0 && isFull {
		d.no = isFullText
	}
	out := d.ahead
	if d.no == "" {
		if d.event.Kind != 0 {
			s.w.commit(d.event, s)
		}
		if d.data != nil {
			out = append(out, d.data(s.w.store)...)
		}
		if d.then != nil {
			d.then()
		}
	}
	if !isOneOf("CLOSE UNSELECT LOGOUT SELECT EXAMINE") {
		out = append(out, s.news(c.Uid || !isOneOf("FETCH STORE SEARCH SORT THREAD"))...)
	}
	switch {
	case d.no != "":
		return append(out, c.Tag+" NO "+d.no)
	case name == "IDLE":
		return out
	case c.Uid:
		name = "UID " + name
	}
	return append(out, c.Tag+" OK "+d.code+name+" done")
}

const isFullText = "[OVERQUOTA] the disk is full"

func (s *slow) turnsOn(name string, c api.Command) bool {
	switch name {
	case "ENABLE":
		return slices.ContainsFunc(c.Names, func(n string) bool { return strings.EqualFold(n, "CONDSTORE") })
	case "SELECT", "EXAMINE":
		return c.Condstore
	case "FETCH":
		for _, item := range c.Items {
			if item.Kind == api.ItemModseq {
				return true
			}
		}
		return c.Changed.Is
	case "STORE":
		return c.Unchanged.Is
	case "STATUS":
		return slices.Contains(c.Status, api.StatusModseq)
	}
	words, _ := search.Print(c.Key)
	line, _, _ := lex.Join(words)
	return strings.Contains(" "+strings.NewReplacer("(", " ", ")", " ").Replace(line), " MODSEQ ")
}

// no is what is said of an error of the store.
func (d *deed) refuse(code api.Errno, missing string) {
	switch code {
	case api.OK:
	case api.ErrCannot:
		d.no = "[CANNOT] no mailbox may be named so"
	case api.ErrBox:
		d.no = "[" + missing + "] no such mailbox"
	case api.ErrThere:
		d.no = "[ALREADYEXISTS] there is such a mailbox"
	case api.ErrInferior:
		d.no = "[HASCHILDREN] others lie below it"
	default:
		d.no = "[LIMIT] that is more than may be"
	}
}

func slowName(text string) string {
	name, code := octet.FromWire(text)
	if code != api.OK {
		return ""
	}
	return name
}

func slowWire(name string) string {
	wire, _ := octet.Wire(name)
	return lex.Put(wire)
}

func (s *slow) deedOf(name string, c api.Command, wasOn bool) deed {
	var d deed
	var code api.Errno
	db := s.w.store
	missing := "NONEXISTENT"
	switch name {
	case "CAPABILITY":
		d.data = said("* CAPABILITY " + caps)
	case "LOGOUT":
		d.data = said("* BYE until next time")
		d.then = func() { s.leave(api.StateOver) }
	case "LOGIN":
		if c.User+"\x00"+c.Pass != s.w.rules.User+"\x00"+s.w.rules.Pass {
			d.no = "[AUTHENTICATIONFAILED] wrong user or password"
		}
		d.then = func() { s.state = api.StateKnown }
	case "SELECT", "EXAMINE":
		return s.opens(name, c)
	case "CREATE":
		d.event, code = db.Make(slowName(strings.TrimSuffix(c.Name, "/")))
	case "DELETE":
		d.event, code = db.Drop(slowName(c.Name))
	case "RENAME":
		d.event, code = db.Rename(slowName(c.Name), slowName(c.To))
	case "SUBSCRIBE":
		d.event, code = db.Subscribe(slowName(c.Name))
	case "UNSUBSCRIBE":
		d.event, code = db.Unsubscribe(slowName(c.Name))
	case "LIST", "LSUB":
		d.data = said(s.lists(name, c)...)
	case "STATUS":
		box, none := db.Box(slowName(c.Name))
		code = none
		d.data = func(*store.Store) []string { return []string{s.status(box, c.Status)} }
	case "APPEND":
		date := s.w.rules.Now
		if c.Dated {
			date = c.Date
		}
		missing = "TRYCREATE"
		d.event, code = db.Add(slowName(c.Name), c.Flags, date, c.Body)
		d.code = fmt.Sprintf("[APPENDUID %d %d] ", d.event.Box, d.event.First)
	case "CLOSE", "UNSELECT", "EXPUNGE":
		return s.expunges(name, c)
	case "SEARCH", "SORT", "THREAD":
		return s.searches(name, c)
	case "FETCH", "STORE", "COPY", "MOVE":
		return s.handles(name, c)
	case "IDLE":
		d.data = said("+ idling")
		d.then = func() { s.idle = c.Tag }
	case "NAMESPACE":
		d.data = said(`* NAMESPACE (("" "/")) NIL NIL`)
	case "ENABLE":
		d.data = said("* ENABLED")
		if s.on && !wasOn {
			d.data = said("* ENABLED CONDSTORE")
		}
	}
	d.refuse(code, missing)
	isTaken := d.no == "" || strings.HasPrefix(d.no, "[LIMIT]")
	if (name == "DELETE" || name == "RENAME") && isTaken && s.w.isHeld(slowName(c.Name)) {
		d.no = "[INUSE] it is in use"
	}
	return d
}

func (w *world) isHeld(name string) bool {
	for _, box := range w.store.Boxes() {
		isIt := box.Name == name || name != "INBOX" && strings.HasPrefix(box.Name, name+"/")
		if isIt && w.held[box.Validity] > 0 {
			return true
		}
	}
	return false
}

func (s *slow) opens(name string, c api.Command) deed {
	var d deed
	if s.state == api.StateSelected {
		s.leave(api.StateKnown)
		d.ahead = []string{isClosed}
	}
	box, code := s.w.store.Box(slowName(c.Name))
	d.refuse(code, "NONEXISTENT")
	d.code = map[string]string{"SELECT": "[READ-WRITE] ", "EXAMINE": "[READ-ONLY] "}[name]
	d.data = func(*store.Store) []string {
		s.state, s.box, s.readOnly = api.StateSelected, box.Validity, name == "EXAMINE"
		s.w.held[s.box]++
		from, recent, unseen := s.claim(), 0, 0
		mails, _ := s.w.store.Mails(s.box)
		for i, m := range mails {
			s.rows = append(s.rows, slowRow{uid: m.Uid, told: true, recent: m.Uid >= from})
			if m.Uid >= from {
				recent++
			}
			if !slices.Contains(m.Flags, `\Seen`) && unseen == 0 {
				unseen = i + 1
			}
		}
		flags := strings.TrimSpace(five + " " + strings.Join(box.Keywords, " "))
		out := []string{"* FLAGS (" + flags + ")", fmt.Sprintf("* %d EXISTS", len(mails)), fmt.Sprintf("* %d RECENT", recent)}
		if unseen > 0 {
			out = append(out, fmt.Sprintf("* OK [UNSEEN %d] the first unseen one", unseen))
		}
		if len(box.Keywords) < 8 {
			flags += ` \*`
		}
		if s.readOnly {
			flags = ""
		}
		return append(out, "* OK [PERMANENTFLAGS ("+flags+")] these can be kept", fmt.Sprintf("* OK [UIDNEXT %d] the next uid", box.Next),
			fmt.Sprintf("* OK [UIDVALIDITY %d] the validity", box.Validity), fmt.Sprintf("* OK [HIGHESTMODSEQ %d] the highest modseq", box.Highest))
	}
	return d
}

func (s *slow) lists(name string, c api.Command) []string {
	if c.Pattern == "" {
		return []string{"* " + name + ` (\Noselect) "/" ""`}
	}
	var boxes, out []string
	for _, box := range s.w.store.Boxes() {
		boxes = append(boxes, box.Name)
	}
	names := boxes
	if name == "LSUB" {
		names = s.w.store.Subscribed()
	}
	for _, one := range names {
		wire, _ := octet.Wire(one)
		if !store.Match(c.Ref+c.Pattern, wire) {
			continue
		}
		flag := `\HasNoChildren`
		for _, box := range boxes {
			if strings.HasPrefix(box, one+"/") {
				flag = `\HasChildren`
			}
		}
		if name == "LSUB" {
			flag = map[bool]string{false: `\Noselect`}[slices.Contains(boxes, one)]
		}
		out = append(out, "* "+name+" ("+flag+`) "/" `+slowWire(one))
	}
	return out
}

func (s *slow) status(box api.BoxSight, items []int) string {
	recent := 0
	for uid := range s.w.mails(s.w.store, box.Validity) {
		if uid >= s.w.nobody[box.Validity] {
			recent++
		}
	}
	var out []string
	for _, item := range items {
		out = append(out, fmt.Sprintf(strings.Split("MESSAGES %d,RECENT %d,UIDNEXT %d,UIDVALIDITY %d,UNSEEN %d,HIGHESTMODSEQ %d", ",")[item-1],
			[]int{box.Count, recent, box.Next, box.Validity, box.Unseen, box.Highest}[item-1]))
	}
	return "* STATUS " + slowWire(box.Name) + " (" + strings.Join(out, " ") + ")"
}

func (s *slow) expunges(name string, c api.Command) deed {
	var d deed
	if s.readOnly && name == "EXPUNGE" {
		d.no = "[READ-ONLY] it is open for reading alone"
		return d
	}
	if name != "EXPUNGE" {
		d.then = func() { s.leave(api.StateKnown) }
	}
	if s.readOnly || name == "UNSELECT" {
		return d
	}
	var uids []int
	mails, _ := s.w.store.Mails(s.box)
	named, _, _ := s.set(c.Set, true)
	for _, m := range mails {
		if slices.Contains(m.Flags, `\Deleted`) && (!c.Uid || slices.Contains(named, m.Uid)) {
			uids = append(uids, m.Uid)
		}
	}
	var code api.Errno
	d.event, code = s.w.store.Expunge(s.box, uids)
	d.refuse(code, "NONEXISTENT")
	return d
}

// set is what a set means: uids, whether one has gone, whether it may be.
func (s *slow) set(set []api.Range, byUid bool) ([]int, bool, bool) {
	count, greatest := 0, 0
	for _, r := range s.rows {
		if r.told {
			count++
		}
		if r.told && !r.gone {
			greatest = r.uid
		}
	}
	star := map[bool]int{false: count, true: greatest}[byUid]
	for _, r := range set {
		isStar := r.From == 0 || r.To == 0
		if !byUid && (!isStar && max(r.From, r.To) > count || isStar && count == 0) {
			return nil, false, false
		}
	}
	var uids []int
	gone := false
	for i, r := range s.rows {
		n := map[bool]int{false: i + 1, true: r.uid}[byUid]
		if star > 0 && r.told && !(byUid && r.gone) && slices.ContainsFunc(set, func(p api.Range) bool {
			ends := []int{p.From, p.To}
			for j := range ends {
				if ends[j] == 0 {
					ends[j] = star
				}
			}
			return slices.Min(ends) <= n && n <= slices.Max(ends)
		}) {
			uids = append(uids, r.uid)
			gone = gone || r.gone
		}
	}
	return uids, gone, true
}

func (s *slow) searches(name string, c api.Command) deed {
	var d deed
	if c.Charset.Is && !slices.Contains([]string{"UTF-8", "US-ASCII"}, strings.ToUpper(c.Charset.S)) {
		d.no = "[BADCHARSET (US-ASCII UTF-8)] unknown charset"
		return d
	}
	var last api.Last
	for _, r := range s.rows {
		if r.told {
			last.Seq++
		}
		if r.told && !r.gone {
			last.Uid = r.uid
		}
	}
	mails := s.w.mails(s.w.store, s.box)
	var nums []int
	var cards []api.Card
	modseq := 0
	for i, r := range s.rows {
		m := mails[r.uid]
		m.Seq, m.Recent = i+1, r.recent
		if !r.told || r.gone || !search.Holds(c.Key, m, last) {
			continue
		}
		card := thread.Card(m)
		if !c.Uid {
			card.Uid = i + 1
		}
		nums, cards, modseq = append(nums, card.Uid), append(cards, card), max(modseq, m.Modseq)
	}
	if !s.turnsOn(name, c) {
		modseq = 0
	}
	line := "* " + name
	switch {
	case name == "THREAD":
		tree := map[int]func([]api.Card) []api.Twig{api.ThreadSubject: thread.BySubject, api.ThreadReferences: thread.ByReferences}[c.Algorithm](cards)
		line = strings.TrimSpace(line + " " + thread.Line(tree))
	case name == "SEARCH" && c.Returning:
		line = s.returns(c, nums)
		if modseq > 0 {
			line += fmt.Sprintf(" MODSEQ %d", modseq)
		}
	default:
		if name == "SORT" {
			sorted := []int{}
			for _, at := range thread.Sort(cards, c.By...) {
				sorted = append(sorted, nums[at])
			}
			nums = sorted
		}
		for _, n := range nums {
			line += fmt.Sprint(" ", n)
		}
		if modseq > 0 {
			line += fmt.Sprintf(" (MODSEQ %d)", modseq)
		}
	}
	d.data = said(line)
	return d
}

func (s *slow) returns(c api.Command, nums []int) string {
	line := `* ESEARCH (TAG "` + c.Tag + `")`
	if c.Uid {
		line += " UID"
	}
	if slices.Contains(c.Returns, api.ReturnMin) && len(nums) > 0 {
		line += fmt.Sprint(" MIN ", slices.Min(nums))
	}
	if slices.Contains(c.Returns, api.ReturnMax) && len(nums) > 0 {
		line += fmt.Sprint(" MAX ", slices.Max(nums))
	}
	if slices.Contains(c.Returns, api.ReturnCount) {
		line += fmt.Sprint(" COUNT ", len(nums))
	}
	if (len(c.Returns) == 0 || slices.Contains(c.Returns, api.ReturnAll)) && len(nums) > 0 {
		line += " ALL " + slowSet(nums)
	}
	return line
}

// slowSet writes rising numbers as the shortest set.
func slowSet(nums []int) string {
	var out []string
	for i := 0; i < len(nums); {
		j := i
		for j+1 < len(nums) && nums[j+1] == nums[j]+1 {
			j++
		}
		if i == j {
			out = append(out, fmt.Sprint(nums[i]))
		} else {
			out = append(out, fmt.Sprintf("%d:%d", nums[i], nums[j]))
		}
		i = j + 1
	}
	return strings.Join(out, ",")
}

// handles is FETCH, STORE, COPY and MOVE.
func (s *slow) handles(name string, c api.Command) deed {
	var d deed
	uids, gone, may := s.set(c.Set, c.Uid)
	switch {
	case !may:
		d.bad = true
	case s.readOnly && (name == "STORE" || name == "MOVE"):
		d.no = "[READ-ONLY] it is open for reading alone"
	case gone && !c.Uid:
		d.no = "[EXPUNGEISSUED] some of these have gone"
	}
	if d.bad || d.no != "" {
		return d
	}
	switch name {
	case "FETCH":
		s.fetches(&d, c, uids)
	case "STORE":
		s.stores(&d, c, uids)
	default:
		var code api.Errno
		d.event, code = map[string]func(int, []int, string) (api.Event, api.Errno){"COPY": s.w.store.Copy, "MOVE": s.w.store.Move}[name](s.box, uids, slowName(c.Name))
		d.refuse(code, "TRYCREATE")
		if d.event.Kind == 0 {
			return d
		}
		var there []int
		for i := range uids {
			there = append(there, d.event.First+i)
		}
		copied := fmt.Sprintf("[COPYUID %d %s %s] ", d.event.To, slowSet(uids), slowSet(there))
		if name == "COPY" {
			d.code = copied
		} else {
			d.data = said("* OK " + copied + "moved")
		}
	}
	return d
}

func asked(t api.Text) int {
	n := -1
	if t.Is {
		fmt.Sscan(t.S, &n)
	}
	return n
}

func (s *slow) stores(d *deed, c api.Command, uids []int) {
	event, left, code := s.w.store.Flags(s.box, uids, c.Mode, c.Flags, asked(c.Unchanged))
	d.event = event
	d.refuse(code, "NONEXISTENT")
	var names []int
	for i, r := range s.rows {
		if slices.Contains(left, r.uid) {
			names = append(names, map[bool]int{false: i + 1, true: r.uid}[c.Uid])
		}
	}
	if len(names) > 0 {
		d.code = "[MODIFIED " + slowSet(names) + "] "
	}
	d.data = func(behind *store.Store) []string {
		var out []string
		mails := s.w.mails(behind, s.box)
		for i, r := range s.rows {
			if c.Silent || !slices.Contains(uids, r.uid) || slices.Contains(left, r.uid) {
				continue
			}
			var data []string
			if c.Uid {
				data = append(data, fmt.Sprint("UID ", r.uid))
			}
			data = append(data, "FLAGS "+shownFlags(mails[r.uid].Flags, r.recent))
			if s.on {
				data = append(data, fmt.Sprintf("MODSEQ (%d)", mails[r.uid].Modseq))
			}
			out = append(out, fmt.Sprintf("* %d FETCH (%s)", i+1, strings.Join(data, " ")))
		}
		return out
	}
}

func (s *slow) fetches(d *deed, c api.Command, uids []int) {
	before := s.w.mails(s.w.store, s.box)
	if c.Changed.Is {
		uids = slices.DeleteFunc(uids, func(uid int) bool { return before[uid].Modseq <= asked(c.Changed) })
	}
	seen := false
	for _, item := range c.Items {
		seen = seen || item.Kind == api.ItemSection && !item.Peek || item.Kind == api.ItemText || item.Kind == api.ItemWhole
	}
	if seen && !s.readOnly {
		var code api.Errno
		d.event, _, code = s.w.store.Flags(s.box, uids, 1, []string{`\Seen`}, -1)
		d.refuse(code, "NONEXISTENT")
	}
	lines := func(behind *store.Store) []string {
		var out []string
		mails := s.w.mails(behind, s.box)
		for i, r := range s.rows {
			if slices.Contains(uids, r.uid) {
				isTurned := before[r.uid].Modseq != mails[r.uid].Modseq
				out = append(out, fmt.Sprintf("* %d FETCH (%s)", i+1, strings.Join(s.data(c, mails[r.uid], r.recent, isTurned), " ")))
			}
		}
		return out
	}
	d.data = lines
	twin := s.w.store.Twin()
	twin.Apply(d.event)
	if len(strings.Join(lines(twin), "\r\n")+"\r\n") > api.MaxOutput && d.no == "" {
		d.no = "[LIMIT] that is more than may be"
	}
}

func (s *slow) data(c api.Command, m api.Mail, recent, isTurned bool) []string {
	var names, out []string
	put := func(name, value string) {
		if !slices.Contains(names, name) {
			names, out = append(names, name), append(out, name+" "+value)
		}
	}
	if c.Uid {
		put("UID", fmt.Sprint(m.Uid))
	}
	for _, item := range c.Items {
		put(slowItem(m, item, recent))
	}
	if isTurned {
		put("FLAGS", shownFlags(m.Flags, recent))
	}
	if c.Changed.Is || s.on && isTurned {
		put("MODSEQ", fmt.Sprintf("(%d)", m.Modseq))
	}
	return out
}

func slowItem(m api.Mail, item api.Item, recent bool) (string, string) {
	date, _ := moment.PrintInternal(m.Date)
	value := func(v api.Value) string {
		line, _ := answer.Print(api.Answer{Kind: api.AnswerFetch, Num: 1, Data: []api.Datum{{Name: "X", Value: v}}})
		return line[len("* 1 FETCH (X ") : len(line)-len(")\r\n")]
	}
	head, body := letter.Split(m.Raw)
	whole := limb.Parse(m.Raw)
	switch item.Kind {
	case api.ItemFlags:
		return "FLAGS", shownFlags(m.Flags, recent)
	case api.ItemUid:
		return "UID", fmt.Sprint(m.Uid)
	case api.ItemDate:
		return "INTERNALDATE", `"` + date + `"`
	case api.ItemSize:
		return "RFC822.SIZE", fmt.Sprint(len(m.Raw))
	case api.ItemEnvelope:
		return "ENVELOPE", value(limb.Envelope(letter.Envelope(letter.Fields(head))))
	case api.ItemBody:
		return "BODY", value(limb.Structure(m.Raw, whole, false))
	case api.ItemStructure:
		return "BODYSTRUCTURE", value(limb.Structure(m.Raw, whole, true))
	case api.ItemHeader:
		return "RFC822.HEADER", lex.String(head)
	case api.ItemText:
		return "RFC822.TEXT", lex.String(body)
	case api.ItemWhole:
		return "RFC822", lex.String(m.Raw)
	case api.ItemModseq:
		return "MODSEQ", fmt.Sprintf("(%d)", m.Modseq)
	}
	section := []string{"", "HEADER", "HEADER.FIELDS", "HEADER.FIELDS.NOT", "TEXT", "MIME"}[item.Section.Kind]
	if section != "" && item.Section.Place != "" {
		section = "." + section
	}
	if len(item.Section.Names) > 0 {
		section += " (" + strings.Join(item.Section.Names, " ") + ")"
	}
	name := "BODY[" + item.Section.Place + section + "]"
	text, is := limb.Section(m.Raw, whole, item.Section)
	if item.Partial {
		name += fmt.Sprintf("<%d>", item.From)
		text = text[min(item.From, len(text)):]
		text = text[:min(item.N, len(text))]
	}
	if !is {
		return name, "NIL"
	}
	return name, lex.String(text)
}
