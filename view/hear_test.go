package view_test

import (
	"slices"
	"testing"

	"postbag/api"
	"postbag/view"
)

// P16.2: every kind of the table, of this mailbox, of another one, and of both.
func TestHearKinds(t *testing.T) {
	for what, c := range map[string]struct {
		e    api.Event
		want []api.Told
		uids []int
	}{
		"Add here":         {adds(here, 10), []api.Told{exists(4), recent(1)}, list(2, 5, 9, 10)},
		"Add there":        {adds(there, 10), nil, list(2, 5, 9)},
		"Copy to here":     {copies(there, here, 10, 1, 2), []api.Told{exists(5), recent(2)}, list(2, 5, 9, 10, 11)},
		"Copy from here":   {copies(here, there, 10, 2, 5), nil, list(2, 5, 9)},
		"Copy within here": {copies(here, here, 10, 2, 5), []api.Told{exists(5), recent(2)}, list(2, 5, 9, 10, 11)},
		"Copy elsewhere":   {copies(there, there, 10, 2, 5), nil, list(2, 5, 9)},
		"Move to here":     {moves(there, here, 10, 2, 5), []api.Told{exists(5), recent(2)}, list(2, 5, 9, 10, 11)},
		"Move from here":   {moves(here, there, 10, 2, 5), []api.Told{gone(1, 2), gone(1, 5)}, list(9)},
		"Move within here": {moves(here, here, 10, 2, 5), []api.Told{gone(1, 2), gone(1, 5), exists(3), recent(2)}, list(9, 10, 11)},
		"Move elsewhere":   {moves(there, there, 10, 2, 5), nil, list(2, 5, 9)},
		"Expunge here":     {expunges(here, 2, 9), []api.Told{gone(1, 2), gone(2, 9)}, list(5)},
		"Expunge there":    {expunges(there, 2, 9), nil, list(2, 5, 9)},
		"Inbox here":       {empties(here), []api.Told{gone(1, 2), gone(1, 5), gone(1, 9)}, nil},
		"Inbox there":      {empties(there), nil, list(2, 5, 9)},
		"Flags here":       {turns(here, 6, mark(2, `\Seen`), mark(9)), []api.Told{flags(1, 2, 6, `\Seen`), flags(3, 9, 6)}, list(2, 5, 9)},
		"Flags there":      {turns(there, 6, mark(2, `\Seen`), mark(9)), nil, list(2, 5, 9)},
	} {
		v := viewOf(2, 5, 9)
		v.Hear(c.e, false)
		wantUids(t, what+", heard", v, 2, 5, 9)
		wantTold(t, what, v.Take(api.WhenAll, 1), c.want...)
		wantUids(t, what+", told", v, c.uids...)
	}
}

// P16.2: only flags ask who has turned them: all else that a connection does itself is news to it too.
func TestHearOwn(t *testing.T) {
	for what, c := range map[string]struct {
		e    api.Event
		want []api.Told
	}{
		"Add":     {adds(here, 10), []api.Told{exists(4), recent(1)}},
		"Copy":    {copies(here, here, 10, 2, 5), []api.Told{exists(5), recent(2)}},
		"Move":    {moves(here, here, 10, 2, 5), []api.Told{gone(1, 2), gone(1, 5), exists(3), recent(2)}},
		"Expunge": {expunges(here, 2, 9), []api.Told{gone(1, 2), gone(2, 9)}},
		"Inbox":   {empties(here), []api.Told{gone(1, 2), gone(1, 5), gone(1, 9)}},
		"Flags":   {turns(here, 6, mark(2, `\Seen`), mark(9)), nil},
	} {
		v := viewOf(2, 5, 9)
		v.Hear(c.e, true)
		wantTold(t, what, v.Take(api.WhenAll, 1), c.want...)
	}
}

// P16.2: kinds that say nothing, though all that the others look at is there.
func TestHearOtherKinds(t *testing.T) {
	full := api.Event{Number: 9, Box: here, To: here, First: 10, Name: "INBOX", Names: []string{"a"}, Boxes: list(here), Uids: list(2, 5), Marks: []api.Mark{mark(2, "k"), mark(9)}, Body: "x"}
	silent := slices.Concat(edges[:5], edges[7:], list(api.EventMake, api.EventDrop, api.EventRename, api.EventSubscribe, api.EventUnsubscribe, 12, 13, 255, 256+api.EventAdd, -api.EventAdd))
	for _, kind := range silent {
		for _, own := range []bool{false, true} {
			v := viewOf(2, 5, 9)
			full.Kind = kind
			v.Hear(full, own)
			what := words("the kind %d", kind)
			wantSome(t, what, v.Gone, list(2, 5, 9))
			wantTold(t, what, v.Take(api.WhenAll, 1))
			wantUids(t, what, v, 2, 5, 9)
		}
	}
}

// P16.2: a kind looks at what its row of the table names, at nothing else.
func TestHearLooksAtItsOwn(t *testing.T) {
	full := api.Event{Number: 6, First: 10, Uids: list(2, 5), Marks: []api.Mark{mark(9, "k")}}
	at := func(kind, box, to int) api.Event {
		e := full
		e.Kind, e.Box, e.To = kind, box, to
		return e
	}
	for what, c := range map[string]struct {
		e    api.Event
		want []api.Told
	}{
		"Add":                      {at(api.EventAdd, here, there), []api.Told{exists(4), recent(0)}},
		"Add, To is here":          {at(api.EventAdd, there, here), nil},
		"Copy":                     {at(api.EventCopy, here, here), []api.Told{exists(5), recent(0)}},
		"Move":                     {at(api.EventMove, here, here), []api.Told{gone(1, 2), gone(1, 5), exists(3), recent(0)}},
		"Expunge":                  {at(api.EventExpunge, here, here), []api.Told{gone(1, 2), gone(1, 5)}},
		"Expunge, To is here":      {at(api.EventExpunge, there, here), nil},
		"Inbox":                    {at(api.EventInbox, here, there), []api.Told{gone(1, 2), gone(1, 5), gone(1, 9)}},
		"Inbox, To is here":        {at(api.EventInbox, there, here), nil},
		"Flags":                    {at(api.EventFlags, here, here), []api.Told{flags(3, 9, 6, "k")}},
		"Flags, To is here":        {at(api.EventFlags, there, here), nil},
		"Flags of no mailbox":      {at(api.EventFlags, 0, 0), nil},
		"Copy, neither is here":    {at(api.EventCopy, 0, there), nil},
		"Move, neither is here":    {at(api.EventMove, 0, there), nil},
		"Add of no mailbox":        {at(api.EventAdd, 0, 0), nil},
		"Expunge of no mailbox":    {at(api.EventExpunge, -here, here), nil},
		"Copy without To, of here": {at(api.EventCopy, here, 0), nil},
	} {
		v := viewOf(2, 5, 9)
		v.Hear(c.e, false)
		wantTold(t, what, v.Take(api.WhenAll, most), c.want...)
	}
}

// P16.2: a uid comes, if it is a uid above all rows and all that are coming.
func TestHearComing(t *testing.T) {
	for _, c := range []struct{ rows, come, want []int }{
		{list(2, 5, 9), list(10), list(2, 5, 9, 10)},
		{list(2, 5, 9), list(9), list(2, 5, 9)},
		{list(2, 5, 9), list(8), list(2, 5, 9)},
		{list(2, 5, 9), list(1), list(2, 5, 9)},
		{list(2, 5, 9), list(5, 0, -1, least), list(2, 5, 9)},
		{list(2, 5, 9), list(12, 11, 10, 12), list(2, 5, 9, 12)},
		{list(2, 5, 9), list(12, 12, 13, 13), list(2, 5, 9, 12, 13)},
		{list(2, 5, 9), list(20, 30, 25, 31), list(2, 5, 9, 20, 30, 31)},
		{list(2, 5, 9), list(end-1, end, api.MaxNumber, most), list(2, 5, 9, end-1, end)},
		{list(2, 5, 9), list(api.MaxNumber, api.MaxNumber+1, most, 10), list(2, 5, 9, 10)},
		{list(end), list(end, api.MaxNumber), list(end)},
		{list(end - 1), list(end), list(end-1, end)},
		{nil, list(0), nil},
		{nil, list(-1, least), nil},
		{nil, list(1), list(1)},
		{nil, list(end), list(end)},
		{nil, list(api.MaxNumber), nil},
		{nil, list(most), nil},
	} {
		byAdd, byCopy, byMove := viewOf(c.rows...), viewOf(c.rows...), viewOf(c.rows...)
		for _, uid := range c.come {
			byAdd.Hear(adds(here, uid), false)
			byCopy.Hear(copies(there, here, uid, 77), true)
			byMove.Hear(moves(there, here, uid, -3), false)
		}
		for what, v := range map[string]*view.View{"Add": byAdd, "Copy": byCopy, "Move": byMove} {
			what = words("%v: by %s come %v", c.rows, what, c.come)
			wantUids(t, what, v, c.rows...)
			want := []api.Told{exists(len(c.want)), recent(len(c.want) - len(c.rows))}
			if len(c.want) == len(c.rows) {
				want = nil
			}
			wantTold(t, what, v.Take(api.WhenNumbers, 1), want...)
			wantUids(t, what, v, c.want...)
		}
	}
}

// P16.2: First, First + 1 and so on, as many as Uids, as exact numbers.
func TestHearSeveralComing(t *testing.T) {
	for _, c := range []struct {
		first, count int
		want         []int
	}{
		{10, 0, nil},
		{10, 1, list(10)},
		{10, 3, list(10, 11, 12)},
		{9, 3, list(10, 11)},
		{4, 6, nil},
		{4, 7, list(10)},
		{-2, 13, list(10)},
		{0, 10, nil},
		{end, 1, list(end)},
		{end, 3, list(end)},
		{end - 1, 3, list(end-1, end)},
		{end - 1, 2, list(end-1, end)},
		{end - 2, 2, list(end-2, end-1)},
		{api.MaxNumber, 3, nil},
		{most, 1, nil},
		{most, 5, nil},
		{most - 1, 5, nil},
		{most - 5, 20, nil},
		{least, 5, nil},
		{least + 3, 40, nil},
		{-1, 0, nil},
	} {
		uids := make([]int, c.count)
		for _, e := range []api.Event{copies(there, here, c.first, uids...), moves(there, here, c.first, uids...), copies(here, here, c.first, uids...)} {
			v := viewOf(2, 5, 9)
			v.Hear(e, false)
			what := words("%d uids from %d on", c.count, c.first)
			if told := v.Take(api.WhenAll, 1); (len(told) > 0) != (len(c.want) > 0) {
				t.Errorf("%s: told %+v", what, told)
			}
			wantUids(t, what, v, slices.Concat(list(2, 5, 9), c.want)...)
			wantSome(t, what, v.Gone, list(2, 5, 9))
		}
	}
}

// P16.2: rows that have gone and were not told of are rows: what comes stands above them.
func TestHearComingAboveGone(t *testing.T) {
	v := viewOf(2, 5, 9)
	hears(v, false, expunges(here, 5, 9), adds(here, 9), adds(here, 6), adds(here, 10))
	wantTold(t, "above what has gone", v.Take(api.WhenNumbers, most), exists(4), recent(0))
	wantUids(t, "above what has gone", v, 2, 5, 9, 10)
	hears(v, false, expunges(here, 10))
	wantTold(t, "all of it", v.Take(api.WhenAll, most), gone(2, 5), gone(2, 9), gone(2, 10))
	hears(v, false, adds(here, 2), adds(here, 1), adds(here, 3))
	wantTold(t, "above what is left", v.Take(api.WhenAll, most), exists(2), recent(0))
	wantUids(t, "above what is left", v, 2, 3)
}

// P16.2: what is forgotten is in nobody's way.
func TestHearComingBehindForgotten(t *testing.T) {
	v := viewOf(2)
	hears(v, false, adds(here, 10), adds(here, 12), expunges(here, 12), adds(here, 10), adds(here, 11))
	wantTold(t, "one was forgotten", v.Take(api.WhenAll, 11), exists(3), recent(1))
	wantUids(t, "one was forgotten", v, 2, 10, 11)
	hears(v, false, adds(here, 20), empties(here), adds(here, 11), adds(here, 12))
	wantTold(t, "all were forgotten", v.Take(api.WhenAll, most), gone(1, 2), gone(1, 10), gone(1, 11), exists(1), recent(0))
	wantUids(t, "all were forgotten", v, 12)
}

// P16.2: uids that go while they are rows, while they are coming, twice, and that were never there.
func TestHearGoing(t *testing.T) {
	for what, c := range map[string]struct {
		uids []int
		want []api.Told
		gone []int
	}{
		"none":                 {nil, []api.Told{exists(5), recent(2)}, nil},
		"the first row":        {list(2), []api.Told{gone(1, 2), exists(4), recent(2)}, list(2)},
		"a row between":        {list(5), []api.Told{gone(2, 5), exists(4), recent(2)}, list(5)},
		"the last row":         {list(9), []api.Told{gone(3, 9), exists(4), recent(2)}, list(9)},
		"a row twice":          {list(5, 5), []api.Told{gone(2, 5), exists(4), recent(2)}, list(5)},
		"one that is coming":   {list(11), []api.Told{exists(4), recent(1)}, nil},
		"it twice":             {list(11, 11), []api.Told{exists(4), recent(1)}, nil},
		"the other one":        {list(15), []api.Told{exists(4), recent(1)}, nil},
		"both":                 {list(15, 11), nil, nil},
		"both and a row":       {list(11, 2, 15), []api.Told{gone(1, 2)}, list(2)},
		"all, falling":         {list(15, 11, 9, 5, 2), []api.Told{gone(1, 2), gone(1, 5), gone(1, 9)}, list(2, 5, 9)},
		"never there":          {list(1, 3, 10, 12, 16), []api.Told{exists(5), recent(2)}, nil},
		"no uids":              {edges[:5], []api.Told{exists(5), recent(2)}, nil},
		"too great":            {edges[8:], []api.Told{exists(5), recent(2)}, nil},
		"numbers, not uids":    {list(1, 3, 4), []api.Told{exists(5), recent(2)}, nil},
		"some of all, several": {list(-1, 9, 9, 15, 3, 2, 9), []api.Told{gone(1, 2), gone(2, 9), exists(2), recent(1)}, list(2, 9)},
	} {
		for _, e := range []api.Event{expunges(here, c.uids...), moves(here, there, 50, c.uids...)} {
			v := viewOf(2, 5, 9)
			hears(v, false, adds(here, 11), adds(here, 15), e)
			wantUids(t, what, v, 2, 5, 9)
			wantSome(t, what+", gone", v.Gone, slices.Concat(list(2, 3, 5, 9, 11, 15), edges), c.gone...)
			hears(v, true, expunges(here, c.uids...))
			wantSome(t, what+", gone again", v.Gone, list(2, 5, 9), c.gone...)
			wantTold(t, what, v.Take(api.WhenAll, 10), c.want...)
			wantSome(t, what+", told", v.Gone, list(2, 5, 9, 11, 15))
		}
	}
}

// P16.2: a move within the mailbox: what comes comes ahead of what goes.
func TestHearMoveWithin(t *testing.T) {
	for what, c := range map[string]struct {
		e    api.Event
		want []api.Told
		uids []int
	}{
		"a row":              {moves(here, here, 12, 5), []api.Told{gone(2, 5), exists(4), recent(0)}, list(2, 9, 11, 12)},
		"what is coming":     {moves(here, here, 12, 11), []api.Told{exists(4), recent(0)}, list(2, 5, 9, 12)},
		"what comes by it":   {moves(here, here, 12, 12, 13, 99), []api.Told{exists(5), recent(0)}, list(2, 5, 9, 11, 14)},
		"all that comes":     {moves(here, here, 12, 12, 11), []api.Told{exists(4), recent(0)}, list(2, 5, 9, 13)},
		"above all, no row":  {moves(here, here, 11, 11, 12), nil, list(2, 5, 9)},
		"no number for one":  {moves(here, here, end, 2, 5), []api.Told{gone(1, 2), gone(1, 5), exists(3), recent(0)}, list(9, 11, end)},
		"of rows and coming": {moves(here, here, 20, 2, 11), []api.Told{gone(1, 2), exists(4), recent(0)}, list(5, 9, 20, 21)},
	} {
		v := viewOf(2, 5, 9)
		hears(v, false, adds(here, 11), c.e)
		wantTold(t, what, v.Take(api.WhenAll, most), c.want...)
		wantUids(t, what, v, c.uids...)
	}
}

// P16.2: EventInbox with rows and with what is coming, and flags that wait.
func TestHearInbox(t *testing.T) {
	v := viewOf(2, 5, 9)
	hears(v, false, turns(here, 4, mark(2, "k"), mark(9, "l")), adds(here, 10), expunges(here, 5), empties(here))
	wantUids(t, "heard", v, 2, 5, 9)
	wantSome(t, "gone", v.Gone, list(2, 5, 9, 10), 2, 5, 9)
	wantTold(t, "numbers", v.Take(api.WhenNumbers, 1))
	hears(v, false, turns(here, 5, mark(2, "k")), empties(here))
	wantTold(t, "all", v.Take(api.WhenAll, 1), gone(1, 2), gone(1, 5), gone(1, 9))
	hears(v, false, empties(here))
	wantTold(t, "of an empty one", v.Take(api.WhenAll, 1))
	hears(v, false, adds(here, 3))
	wantTold(t, "and behind it", v.Take(api.WhenAll, 1), exists(1), recent(1))
}

// P16.2, P16.11: own and others' marks, in both orders, with something waiting and with nothing.
func TestHearMarks(t *testing.T) {
	const own, others = true, false
	type heard struct {
		own bool
		e   api.Event
	}
	one := func(number int, word string) api.Event { return turns(here, number, mark(5, word)) }
	for what, c := range map[string]struct {
		heard []heard
		want  []api.Told
	}{
		"others":                     {[]heard{{others, one(6, "a")}}, []api.Told{flags(2, 5, 6, "a")}},
		"own":                        {[]heard{{own, one(6, "a")}}, nil},
		"own, own":                   {[]heard{{own, one(6, "a")}, {own, one(7, "b")}}, nil},
		"others, others":             {[]heard{{others, one(6, "a")}, {others, one(7, "b")}}, []api.Told{flags(2, 5, 7, "b")}},
		"others, own":                {[]heard{{others, one(6, "a")}, {own, one(7, "b")}}, []api.Told{flags(2, 5, 7, "b")}},
		"own, others":                {[]heard{{own, one(6, "a")}, {others, one(7, "b")}}, []api.Told{flags(2, 5, 7, "b")}},
		"own, others, own":           {[]heard{{own, one(6, "a")}, {others, one(7, "b")}, {own, one(8, "c")}}, []api.Told{flags(2, 5, 8, "c")}},
		"others, own, others":        {[]heard{{others, one(6, "a")}, {own, one(7, "b")}, {others, one(8, "c")}}, []api.Told{flags(2, 5, 8, "c")}},
		"own of another row":         {[]heard{{others, one(6, "a")}, {own, turns(here, 7, mark(2, "b"))}}, []api.Told{flags(2, 5, 6, "a")}},
		"own of both":                {[]heard{{others, one(6, "a")}, {own, turns(here, 7, mark(2, "b"), mark(5, "b"))}}, []api.Told{flags(2, 5, 7, "b")}},
		"others to no flags":         {[]heard{{others, turns(here, 6, mark(5))}}, []api.Told{flags(2, 5, 6)}},
		"others to no flags, own":    {[]heard{{others, turns(here, 6, mark(5))}, {own, one(7, "b")}}, []api.Told{flags(2, 5, 7, "b")}},
		"own to no flags":            {[]heard{{others, one(6, "a")}, {own, turns(here, 7, mark(5))}}, []api.Told{flags(2, 5, 7)}},
		"a row twice":                {[]heard{{others, turns(here, 6, mark(5, "a"), mark(5, "b"))}}, []api.Told{flags(2, 5, 6, "b")}},
		"a row twice, own":           {[]heard{{own, turns(here, 6, mark(5, "a"), mark(5, "b"))}}, nil},
		"a row twice, own, waiting":  {[]heard{{others, one(6, "x")}, {own, turns(here, 7, mark(5, "a"), mark(5, "b"))}}, []api.Told{flags(2, 5, 7, "b")}},
		"rows in any order":          {[]heard{{others, turns(here, 6, mark(9, "a"), mark(2, "b"))}}, []api.Told{flags(1, 2, 6, "b"), flags(3, 9, 6, "a")}},
		"the number 0, no flags":     {[]heard{{others, turns(here, 0, mark(5))}, {own, turns(here, 0, mark(5))}}, []api.Told{flags(2, 5, 0)}},
		"the number 0, own behind":   {[]heard{{others, turns(here, 0, mark(5))}, {own, one(9, "b")}}, []api.Told{flags(2, 5, 9, "b")}},
		"a number below":             {[]heard{{others, one(6, "a")}, {others, one(-5, "b")}}, []api.Told{flags(2, 5, -5, "b")}},
		"numbers at the ends of int": {[]heard{{others, turns(here, most, mark(2))}, {others, turns(here, least, mark(9))}}, []api.Told{flags(1, 2, most), flags(3, 9, least)}},
		"no row":                     {[]heard{{others, turns(here, 6, mark(1, "a"), mark(3, "a"), mark(10, "a"), mark(0), mark(least), mark(most))}}, nil},
		"a number, not a uid":        {[]heard{{others, turns(here, 6, mark(1, "a"), mark(3, "a"))}}, nil},
		"without marks":              {[]heard{{others, turns(here, 6)}}, nil},
		"gone":                       {[]heard{{others, expunges(here, 5)}, {others, one(6, "a")}}, []api.Told{gone(2, 5)}},
		"waiting, gone":              {[]heard{{others, one(6, "a")}, {others, expunges(here, 5)}}, []api.Told{gone(2, 5)}},
		"waiting, gone, own":         {[]heard{{others, one(6, "a")}, {others, expunges(here, 5)}, {own, one(7, "a")}}, []api.Told{gone(2, 5)}},
		"coming":                     {[]heard{{others, adds(here, 10)}, {others, turns(here, 6, mark(10, "a"))}}, []api.Told{exists(4), recent(0)}},
		"coming, own":                {[]heard{{own, adds(here, 10)}, {own, turns(here, 6, mark(10, "a"))}}, []api.Told{exists(4), recent(0)}},
		"of all kinds":               {[]heard{{others, turns(here, 6, mark(3, "a"), mark(9, "b"), mark(9, "c"), mark(5), mark(77, "d"), mark(2, "", "a b", "\x00", `\recent`))}}, []api.Told{flags(1, 2, 6, "", "a b", "\x00", `\recent`), flags(2, 5, 6), flags(3, 9, 6, "c")}},
		"flags in any order, double": {[]heard{{others, turns(here, 6, mark(5, "z", `\Seen`, "Z", "z"))}}, []api.Told{flags(2, 5, 6, "z", `\Seen`, "Z", "z")}},
	} {
		v, w := viewOf(2, 5, 9), viewOf(2, 5, 9)
		for _, h := range c.heard {
			v.Hear(h.e, h.own)
			w.Hear(h.e, h.own)
		}
		wantTold(t, what, v.Take(api.WhenAll, most), c.want...)
		wantTold(t, what+", again", v.Take(api.WhenAll, most))
		var withoutGone []api.Told
		for _, told := range c.want {
			if told.Kind != api.ToldExpunge {
				withoutGone = append(withoutGone, told)
			}
		}
		wantTold(t, what+", numbers", w.Take(api.WhenNumbers, most), withoutGone...)
	}
}

// P16.2: what was told does not wait any more: own marks behind that are not told.
func TestHearOwnBehindTold(t *testing.T) {
	v := viewOf(2, 5)
	hears(v, false, turns(here, 6, mark(5, "a")))
	wantTold(t, "others", v.Take(api.WhenNumbers, 1), flags(2, 5, 6, "a"))
	hears(v, true, turns(here, 7, mark(5, "b"), mark(2, "b")))
	wantTold(t, "own", v.Take(api.WhenAll, 1))
	hears(v, false, turns(here, 8, mark(5, "b")))
	wantTold(t, "others again", v.Take(api.WhenAll, 1), flags(2, 5, 8, "b"))
}

// P16.2: what was coming and is a row now is turned and goes like any other.
func TestHearOfNewRows(t *testing.T) {
	v := viewOf(2)
	hears(v, false, adds(here, 3), turns(here, 5, mark(3, "a")))
	wantTold(t, "at first", v.Take(api.WhenNumbers, 3), exists(2), recent(1))
	hears(v, false, turns(here, 6, mark(3, "b")))
	wantTold(t, "turned", v.Take(api.WhenNumbers, 3), flags(2, 3, 6, "b"))
	hears(v, false, expunges(here, 3))
	wantSome(t, "gone", v.Gone, list(2, 3), 3)
	wantTold(t, "gone", v.Take(api.WhenAll, 3), gone(2, 3))
	wantUids(t, "gone", v, 2)
}
