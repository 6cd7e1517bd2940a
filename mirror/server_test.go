package mirror_test

import (
	"fmt"
	"math/rand/v2"
	"slices"
	"strings"
	"testing"

	"postbag/api"
)

// hear takes in a word, which answers a line of the connection's own, or is news while it idles.
func (x *world) hear(w api.Sent, l line, before api.SessionSight) {
	x.t.Helper()
	c := x.talkers[w.Conn]
	after := x.sight(w.Conn)
	opens := slices.Contains(opening, l.asked.Verb)
	if opens && after.State == api.StateSelected {
		c.told, c.was, c.doubt, c.back = map[int]string{}, map[int][]string{}, false, nil
	}
	uids := slices.Clone(before.Uids) // as they are at each answer
	c.reader.Feed(w.Text)
	isEnd := false
	outcome := 0
	for a, is := c.reader.Next(); is; a, is = c.reader.Next() {
		isTagged := a.Kind == api.AnswerState && a.Tag != ""
		if isTagged && l.asked.Verb == 0 && l.text != "" && !before.Idle {
			x.wantNot(w.Conn, a)
			continue
		}
		if e := c.Hear(a); e != api.OK {
			x.t.Fatalf("P19.8: %d, %q: %+v cannot follow", w.Conn, l.text, a)
		}
		isEnd, outcome = isTagged, a.Outcome
		switch {
		case a.Kind == api.AnswerExpunge:
			uids = slices.Delete(uids, a.Num-1, a.Num)
			x.counts["expunged"]++
		case a.Kind == api.AnswerExists && !opens:
			uids = append(uids, after.Uids[len(uids):]...)
			x.counts["more"]++
		case a.Kind == api.AnswerFetch:
			x.fetched(c, a, uids[a.Num-1], after.Box)
		}
	}
	if !isEnd && !after.Idle {
		return
	}
	x.hold(c, after)
	if isEnd {
		x.answered(c, l, outcome, after)
	}
	if s := c.Sight(); s.Selected && x.r.IntN(6) == 0 {
		x.seen = append(x.seen, seen{s, !c.doubt})
	}
}

// wantNot holds that the tagged BAD of a line that is no command cannot follow, and changes nothing.
func (x *world) wantNot(k int, a api.Answer) {
	x.t.Helper()
	c := x.talkers[k]
	was := shown(x.t, c.Sight())
	if e := c.Hear(a); e != api.ErrMirror || a.Outcome != api.OutBad || shown(x.t, c.Sight()) != was {
		x.t.Fatalf("P19.8: %+v of a line that is no command: %d", a, e)
	}
	x.counts["no command"]++
}

// kept is what the store has of a mailbox: the flags by uid, and the uids.
func (x *world) kept(box int) (map[int]string, []int) {
	mails, _ := x.Store().Mails(box)
	flags := map[int]string{}
	var uids []int
	for _, m := range mails {
		flags[m.Uid] = strings.Join(m.Flags, " ")
		uids = append(uids, m.Uid)
	}
	return flags, uids
}

// fetched holds that flags are told as they are in the mailbox at this moment.
func (x *world) fetched(c *talker, a api.Answer, uid, box int) {
	x.t.Helper()
	kept, _ := x.kept(box)
	for _, d := range a.Data {
		if d.Name != "FLAGS" {
			continue
		}
		var flags []string
		for _, v := range d.Value.Kids {
			if v.Text != `\Recent` {
				flags = append(flags, v.Text)
			}
		}
		c.told[uid] = strings.Join(flags, " ")
		if is, isThere := kept[uid]; !isThere || is != c.told[uid] {
			x.t.Fatalf("P19.8: of %d is told %q, not %q", uid, c.told[uid], is)
		}
	}
}

// hold is P19.8, and P0.5 as far as it speaks of the connection's picture.
func (x *world) hold(c *talker, view api.SessionSight) {
	x.t.Helper()
	s := c.Sight()
	x.counts["held"]++
	if s.Selected != (view.State == api.StateSelected) || s.Validity != view.Box || len(s.Uids) != len(view.Uids) {
		x.t.Fatalf("P19.8: %s, not %+v", shown(x.t, s), view)
	}
	if !s.Selected {
		return
	}
	if box, e := x.Store().By(view.Box); e != api.OK || s.Highest > box.Highest || s.Next > box.Next || s.Next == 0 {
		x.t.Fatalf("P19.8: %s, not %+v", shown(x.t, s), box)
	}
	for i, uid := range view.Uids {
		if s.Uids[i] != 0 && s.Uids[i] != uid {
			x.t.Fatalf("P19.8: %d is %d, not %d", i+1, s.Uids[i], uid)
		}
		if !s.Known[i] {
			x.counts["not known"]++
			continue
		}
		x.counts["known"]++
		flags := strings.Join(s.Flags[i], " ")
		told, isTold := c.told[uid]
		isWas := s.Uids[i] != 0 && slices.Contains(c.was[uid], flags)
		if !(isTold && told == flags) && !isWas {
			x.t.Fatalf("P19.8: the flags of %d: %q, told %q, remembered %q", uid, flags, told, c.was[uid])
		}
	}
	wantRising(x.t, s)
}

// answered is what holds behind some commands.
func (x *world) answered(c *talker, l line, outcome int, view api.SessionSight) {
	x.t.Helper()
	isOk := outcome == api.OutOk
	switch {
	case c.back != nil && l.of == "uids":
		c.back.half = isOk
	case c.back != nil && l.of == "changes" && isOk && c.back.half:
		x.comeBack(c, view)
	case c.back != nil:
		c.back.isAlone = false
	}
	if l.asked.Verb == api.VerbNoop && isOk && view.State == api.StateSelected {
		x.wantSo(c, view.Box)
	}
	if l.asked.Silent && isOk {
		x.counts["silent"]++
		// A row that it turned may get what is remembered of its uid later on.
		c.doubt = c.doubt || len(c.was) > 0 && slices.Contains(c.Sight().Uids, 0)
	}
}

// wantSo is P0.5 behind NOOP: nothing that is not so of the mailbox.
func (x *world) wantSo(c *talker, box int) {
	x.t.Helper()
	s := c.Sight()
	kept, uids := x.kept(box)
	if len(uids) != len(s.Uids) {
		x.t.Fatalf("P0.5: %s, but there are %v", shown(x.t, s), uids)
	}
	for i, uid := range uids {
		if s.Uids[i] != 0 && s.Uids[i] != uid {
			x.t.Fatalf("P0.5: %s, but there are %v", shown(x.t, s), uids)
		}
		if !s.Known[i] || c.doubt {
			continue
		}
		x.counts["so"]++
		if strings.Join(s.Flags[i], " ") != kept[uid] {
			x.t.Fatalf("P0.5: %s, but %d has %q", shown(x.t, s), uid, kept[uid])
		}
	}
}

// comeBack: both commands of a Resync were done, so that what was known is known again.
func (x *world) comeBack(c *talker, view api.SessionSight) {
	x.t.Helper()
	s := c.Sight()
	for _, uid := range c.back.uids {
		i := slices.Index(view.Uids, uid)
		if i < 0 || !c.back.isAlone {
			continue
		}
		x.counts["known again"]++
		if !s.Known[i] || s.Uids[i] != uid {
			x.t.Fatalf("P19.6: %d was known, and is not: %s", uid, shown(x.t, s))
		}
	}
	if c.back.isTrue {
		c.doubt = false
		x.counts["came back"]++
	}
	c.back = nil
}

// earlier is what was known at some time, of the mailbox that a client has selected, if there is such a thing; perhaps forged.
func (x *world) earlier(c *talker) seen {
	was := seen{}
	now := c.Sight()
	if x.r.IntN(6) == 0 {
		return was
	}
	for _, other := range x.seen {
		if other.sight.Validity == now.Validity && (was.sight.Validity == 0 || x.r.IntN(3) > 0) {
			was = other
		}
	}
	if x.r.IntN(5) == 0 && len(was.sight.Flags) > 0 {
		was.isTrue = false
		was.sight.Flags = slices.Clone(was.sight.Flags)
		was.sight.Flags[x.r.IntN(len(was.sight.Flags))] = []string{"forged", `\Recent`}
	}
	return was
}

// resync lets a client ask what it needs to know again what was known.
func (x *world) resync(k int) {
	x.t.Helper()
	c := x.talkers[k]
	was, now := x.earlier(c), c.Sight()
	list := c.Resync(was.sight)
	x.counts[fmt.Sprint("resyncs of ", len(list))]++
	c.back = nil
	for i, one := range list {
		of := ""
		if len(list) == 2 {
			of = []string{"uids", "changes"}[i]
		}
		x.writeOf(k, commandText(x.t, one), of)
	}
	if len(list) != 2 {
		return
	}
	c.back = &comeback{isTrue: was.isTrue && !c.doubt, isAlone: true}
	c.doubt = true
	for i, uid := range was.sight.Uids {
		if was.sight.Known[i] && uid != 0 {
			c.was[uid] = append(c.was[uid], strings.Join(was.sight.Flags[i], " "))
			if !slices.Contains(now.Uids, uid) { // else it does not come to be known
				c.back.uids = append(c.back.uids, uid)
			}
		}
	}
}

// writes lets a client write something, by how its connection stands.
func (x *world) writes(k int) {
	x.t.Helper()
	c, sight := x.talkers[k], x.sight(k)
	switch isQuiet := len(c.written) == 0; {
	case !isQuiet && c.written[len(c.written)-1].asked.Verb == api.VerbIdle: // a client waits until it is on, or refused
	case sight.Idle && isQuiet:
		c.written = append(c.written, line{text: oneOf(x.r, "DONE\r\n", "done\r\n", "stop\r\n", "x NOOP\r\n", "\r\n")})
	case x.r.IntN(40) == 0:
		c.written = append(c.written, line{text: oneOf(x.r, "\r\n", "+ x\r\n", " x\r\n", "a\rb NOOP\r\n")})
	case isQuiet && sight.State == api.StateFresh && x.r.IntN(8) > 0:
		x.write(k, "LOGIN u p")
	case isQuiet && sight.State == api.StateKnown && x.r.IntN(4) > 0:
		x.write(k, oneOf(x.r, "SELECT inbox", "SELECT inbox", "EXAMINE inbox", "SELECT a"))
	case c.Sight().Selected && (len(c.told) == 0 && x.r.IntN(6) == 0 || x.r.IntN(20) == 0):
		x.resync(k)
	default:
		x.write(k, lineText(x.r))
	}
}

func (x *world) step() {
	x.t.Helper()
	k := 1 + x.r.IntN(3)
	c := x.talkers[k]
	switch n := x.r.IntN(200); {
	case x.Down():
		x.do(api.Step{Kind: api.StepStart}, 0, line{})
	case c == nil:
		x.open(k)
	case n == 0:
		x.do(api.Step{Kind: api.StepCut, Conn: k}, 0, line{})
		x.talkers[k] = nil
	case n == 1:
		x.do(api.Step{Kind: api.StepPlan, Stops: []api.Stop{{At: 1 + x.r.IntN(9), Part: x.r.IntN(99), Rest: x.r.IntN(99)}}}, 0, line{})
		x.counts["plans"]++
	case len(c.written) > 0 && n < 140:
		x.come(k)
	default:
		x.writes(k)
	}
}

// settle lets all lines come, ends every IDLE, and asks for the news.
func (x *world) settle() {
	x.t.Helper()
	for k := range x.talkers {
		for range 20 {
			if x.Down() {
				x.do(api.Step{Kind: api.StepStart}, 0, line{})
			}
			if x.talkers[k] != nil && len(x.talkers[k].written) > 0 {
				x.come(k)
			}
		}
		if x.sight(k).Idle {
			x.talkers[k].written = append(x.talkers[k].written, line{text: "DONE\r\n"})
			x.come(k)
		}
		if c := x.talkers[k]; c != nil && len(c.written) == 0 {
			x.write(k, "NOOP")
			x.come(k)
		}
	}
}

func script(t *testing.T, r *rand.Rand) *world {
	t.Helper()
	x := newWorld(t, r)
	for i := range 400 {
		x.step()
		if i%50 == 49 {
			x.settle()
		}
	}
	return x
}

// P19.8, P0.5: long random scripts of several connections, with stops and starts, each with a mirror that is held behind every tagged answer.
func TestServer(t *testing.T) {
	t.Parallel()
	r := rand.New(rand.NewPCG(19, 8))
	counts := map[string]int{}
	for range 150 {
		for what, n := range script(t, r).counts {
			counts[what] += n
		}
	}
	t.Log(counts)
	for what, least := range map[string]int{"held": 5000, "known": 10000, "not known": 10000, "so": 2000, "expunged": 500, "more": 500, "silent": 200, "no command": 100, "resyncs of 1": 100, "resyncs of 2": 500, "came back": 100, "known again": 500, "plans": 100} {
		if counts[what] < least {
			t.Errorf("%d %s are too few to say something", counts[what], what)
		}
	}
}

// W2: a script that is played twice shows the same, answer by answer.
func TestServerTwice(t *testing.T) {
	t.Parallel()
	for seed := range uint64(4) {
		one, two := script(t, rand.New(rand.NewPCG(19, seed))), script(t, rand.New(rand.NewPCG(19, seed)))
		if !slices.Equal(one.log, two.log) {
			t.Errorf("W2: the script %d is another one the second time", seed)
		}
	}
}
