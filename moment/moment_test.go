package moment_test

import (
	"math"
	"math/rand/v2"
	"testing"
	"time"

	"postbag/api"
	"postbag/moment"
)

const (
	firstStamp = -62135596800 // 1 January of the year 1, at the zone 0
	lastStamp  = 253402300799 // the last second of 9999
)

func on(year, month, day int) api.Moment {
	return api.Moment{Year: year, Month: month, Day: day}
}

func at(m api.Moment, hour, minute, second, zone int) api.Moment {
	m.Hour, m.Minute, m.Second, m.Zone = hour, minute, second, zone
	return m
}

// known is what the Go library says of a moment, if it has it.
func known(m api.Moment) (time.Time, bool) {
	if m.Month < 1 || m.Month > 12 || m.Year < 1 || m.Year > 9999 || m.Zone <= -1440 || m.Zone >= 1440 {
		return time.Time{}, false
	}
	zone := time.FixedZone("", 60*m.Zone)
	k := time.Date(m.Year, time.Month(m.Month), m.Day, m.Hour, m.Minute, m.Second, 0, zone)
	// What the library carries over is no moment.
	return k, fromTime(k) == m
}

func fromTime(k time.Time) api.Moment {
	_, offset := k.Zone()
	return api.Moment{Year: k.Year(), Month: int(k.Month()), Day: k.Day(), Hour: k.Hour(), Minute: k.Minute(), Second: k.Second(), Zone: offset / 60}
}

// lengthOf says a month's length as the document does.
func lengthOf(year, month int) int {
	switch month {
	case 4, 6, 9, 11:
		return 30
	case 2:
		if year%400 == 0 || year%4 == 0 && year%100 != 0 {
			return 29
		}
		return 28
	}
	return 31
}

func dayBehind(m api.Moment) api.Moment {
	m.Day++
	if m.Day > lengthOf(m.Year, m.Month) {
		m.Day = 1
		m.Month++
	}
	if m.Month > 12 {
		m.Month = 1
		m.Year++
	}
	return m
}

func secondBehind(m api.Moment) api.Moment {
	m.Second++
	if m.Second == 60 {
		m.Second = 0
		m.Minute++
	}
	if m.Minute == 60 {
		m.Minute = 0
		m.Hour++
	}
	if m.Hour == 24 {
		m.Hour = 0
		m = dayBehind(m)
	}
	return m
}

func randomMoment(r *rand.Rand) api.Moment {
	m := on(1+r.IntN(9999), 1+r.IntN(12), 0)
	m.Day = 1 + r.IntN(lengthOf(m.Year, m.Month))
	return at(m, r.IntN(24), r.IntN(60), r.IntN(60), r.IntN(2879)-1439)
}

// edges has moments, and what is none, at all bounds.
func edges() []api.Moment {
	var out []api.Moment
	days := []api.Moment{
		on(1, 1, 1), on(1, 1, 2), on(9999, 12, 31), on(9999, 12, 30), on(1970, 1, 1), on(1969, 12, 31), on(2000, 2, 29), on(2026, 2, 1),
		{}, on(0, 12, 31), on(10000, 1, 1), on(1900, 2, 29), on(2026, 4, 31), on(2026, 0, 1), on(2026, 13, 1), on(2026, 1, 0), on(-4, 2, 29),
	}
	for _, d := range days {
		for _, zone := range []int{-1440, -1439, -60, 0, 1, 1439, 1440} {
			out = append(out, at(d, 0, 0, 0, zone), at(d, 23, 59, 59, zone), at(d, 24, 0, 0, zone), at(d, 12, 60, 0, zone), at(d, 12, 0, 60, zone), at(d, -1, 0, 0, zone), at(d, 0, -1, 0, zone), at(d, 0, 0, -1, zone))
		}
	}
	return out
}

// P2.1
func TestValidKnowsTheLengthOfEachMonth(t *testing.T) {
	for _, year := range []int{1, 3, 4, 100, 200, 400, 1600, 1700, 1800, 1900, 1970, 1999, 2000, 2023, 2024, 2026, 2100, 2400, 9996, 9999} {
		for month := 1; month <= 12; month++ {
			last := lengthOf(year, month)
			for day, want := range map[int]bool{-1: false, 0: false, 1: true, last: true, last + 1: false, 99: false} {
				if got := moment.Valid(on(year, month, day)); got != want {
					t.Errorf("Valid of %d-%d-%d: %v", year, month, day, got)
				}
			}
		}
	}
	for year, want := range map[int]bool{1896: true, 1900: false, 1904: true, 2000: true, 2001: false, 2100: false, 4: true, 100: false, 400: true, 0: false, -4: false, 10000: false} {
		if got := moment.Valid(on(year, 2, 29)); got != want {
			t.Errorf("Valid of 29 February %d: %v", year, got)
		}
	}
}

// P2.1
func TestValidHoldsEachPartToItsBounds(t *testing.T) {
	base := at(on(2026, 2, 15), 12, 30, 30, 0)
	for _, c := range []struct {
		part        func(*api.Moment) *int
		least, most int
	}{
		{func(m *api.Moment) *int { return &m.Year }, 1, 9999},
		{func(m *api.Moment) *int { return &m.Month }, 1, 12},
		{func(m *api.Moment) *int { return &m.Day }, 1, 28},
		{func(m *api.Moment) *int { return &m.Hour }, 0, 23},
		{func(m *api.Moment) *int { return &m.Minute }, 0, 59},
		{func(m *api.Moment) *int { return &m.Second }, 0, 59},
		{func(m *api.Moment) *int { return &m.Zone }, -1439, 1439},
	} {
		for n, want := range map[int]bool{
			math.MinInt: false, c.least - 1: false, c.least: true, c.least + 1: true,
			c.most - 1: true, c.most: true, c.most + 1: false, math.MaxInt: false,
		} {
			m := base
			*c.part(&m) = n
			if got := moment.Valid(m); got != want {
				t.Errorf("Valid of %+v: %v", m, got)
			}
		}
	}
}

// P2.2
func TestDaysAndWeekday(t *testing.T) {
	for _, c := range []struct {
		m             api.Moment
		days, weekday int
	}{
		{on(1970, 1, 1), 0, 4}, {on(1969, 12, 31), -1, 3}, {on(1969, 12, 28), -4, 0}, {on(1970, 1, 4), 3, 0}, {on(1970, 1, 3), 2, 6},
		{on(2000, 3, 1), 11017, 3}, {on(1, 1, 1), -719162, 1}, {on(1, 1, 7), -719156, 0}, {on(9999, 12, 31), 2932896, 5}, {on(2026, 2, 1), 20485, 0},
		{at(on(2026, 2, 1), 23, 59, 59, 1439), 20485, 0}, {at(on(2026, 2, 1), 23, 59, 59, -1439), 20485, 0},
		{at(on(1, 1, 1), 0, 0, 0, 1439), -719162, 1}, {at(on(9999, 12, 31), 23, 59, 59, -1439), 2932896, 5},
	} {
		if days, weekday := moment.Days(c.m), moment.Weekday(c.m); days != c.days || weekday != c.weekday {
			t.Errorf("%+v: %d days, weekday %d", c.m, days, weekday)
		}
	}
}

// P2.2, P2.3
func TestWhatIsNotValidCountsZero(t *testing.T) {
	none := 0
	for _, m := range edges() {
		if moment.Valid(m) {
			continue
		}
		none++
		if moment.Days(m) != 0 || moment.Weekday(m) != 0 || moment.Stamp(m) != 0 {
			t.Errorf("%+v: %d, %d, %d", m, moment.Days(m), moment.Weekday(m), moment.Stamp(m))
		}
	}
	if none == 0 {
		t.Error("no edge is outside of the calendar")
	}
}

// P2.1, P2.2, P2.3
func TestCountingAgreesWithTheLibrary(t *testing.T) {
	r := rand.New(rand.NewPCG(2, 1))
	list := edges()
	for range 20000 {
		m := randomMoment(r)
		list = append(list, m)
		m.Day += r.IntN(5)
		list = append(list, m)
	}
	for _, m := range list {
		k, is := known(m)
		if moment.Valid(m) != is {
			t.Fatalf("Valid of %+v: %v", m, !is)
		}
		if !is {
			continue
		}
		midnight := time.Date(m.Year, time.Month(m.Month), m.Day, 0, 0, 0, 0, time.UTC)
		if int64(moment.Days(m))*86400 != midnight.Unix() || moment.Weekday(m) != int(midnight.Weekday()) || int64(moment.Stamp(m)) != k.Unix() {
			t.Fatalf("%+v: %d days, weekday %d, stamp %d", m, moment.Days(m), moment.Weekday(m), moment.Stamp(m))
		}
	}
}

// P2.3
func TestStamp(t *testing.T) {
	for _, c := range []struct {
		m    api.Moment
		want int
	}{
		{on(1970, 1, 1), 0},
		{at(on(1970, 1, 1), 1, 0, 0, 60), 0},
		{at(on(1969, 12, 31), 23, 0, 0, -60), 0},
		{at(on(1969, 12, 31), 23, 59, 59, 0), -1},
		{at(on(1970, 1, 1), 0, 0, 0, 1439), -86340},
		{at(on(1970, 1, 1), 0, 0, 0, -1439), 86340},
		{at(on(1970, 1, 2), 3, 4, 5, -6), 86400 + 3*3600 + 4*60 + 5 + 6*60},
		{on(1, 1, 1), firstStamp},
		{at(on(9999, 12, 31), 23, 59, 59, 0), lastStamp},
		{at(on(1, 1, 1), 0, 0, 0, 1439), firstStamp - 86340},
		{at(on(9999, 12, 31), 23, 59, 59, -1439), lastStamp + 86340},
		{api.Moment{}, 0},
		{at(on(2026, 2, 1), 0, 0, 0, 1440), 0},
	} {
		if got := moment.Stamp(c.m); got != c.want {
			t.Errorf("Stamp of %+v: %d, not %d", c.m, got, c.want)
		}
	}
}

// P2.4
func TestAtRefusesZones(t *testing.T) {
	for _, zone := range []int{math.MinInt, -86400, -1441, -1440, 1440, 1441, 86400, math.MaxInt} {
		for _, stamp := range []int{math.MinInt, firstStamp - 1, firstStamp, -1, 0, 1, lastStamp, lastStamp + 1, math.MaxInt} {
			if m, e := moment.At(stamp, zone); m != (api.Moment{}) || e != api.ErrArg {
				t.Errorf("At(%d, %d): %+v, %d", stamp, zone, m, e)
			}
		}
	}
}

// P2.4
func TestAtKnowsBothEnds(t *testing.T) {
	for _, zone := range []int{-1439, -1, 0, 1, 1439} {
		first, last := firstStamp-60*zone, lastStamp-60*zone
		for stamp, want := range map[int]api.Moment{
			first: at(on(1, 1, 1), 0, 0, 0, zone), first + 1: at(on(1, 1, 1), 0, 0, 1, zone),
			last: at(on(9999, 12, 31), 23, 59, 59, zone), last - 1: at(on(9999, 12, 31), 23, 59, 58, zone),
		} {
			if m, e := moment.At(stamp, zone); m != want || e != api.OK {
				t.Errorf("At(%d, %d): %+v, %d", stamp, zone, m, e)
			}
		}
		outside := []int{first - 1, first - 60, first - 86400, first - 2*86400, last + 1, last + 60, last + 86400, last + 2*86400}
		for shift := range 63 {
			outside = append(outside, math.MinInt>>shift, math.MaxInt>>shift)
		}
		outside = append(outside, math.MinInt, math.MinInt+1, math.MinInt+86340, math.MaxInt, math.MaxInt-1, math.MaxInt-86340)
		for _, stamp := range outside {
			if stamp >= first && stamp <= last {
				continue
			}
			if m, e := moment.At(stamp, zone); m != (api.Moment{}) || e != api.ErrRange {
				t.Errorf("At(%d, %d): %+v, %d", stamp, zone, m, e)
			}
		}
	}
}

// P2.4
func TestAt(t *testing.T) {
	for _, c := range []struct {
		stamp, zone int
		want        api.Moment
	}{
		{0, 0, on(1970, 1, 1)},
		{-1, 0, at(on(1969, 12, 31), 23, 59, 59, 0)},
		{0, -90, at(on(1969, 12, 31), 22, 30, 0, -90)},
		{0, 90, at(on(1970, 1, 1), 1, 30, 0, 90)},
		{951782400, 0, on(2000, 2, 29)},
		{951782399, 0, at(on(2000, 2, 28), 23, 59, 59, 0)},
		{951868800, 0, on(2000, 3, 1)},
		{946684799, 0, at(on(1999, 12, 31), 23, 59, 59, 0)},
		{978307199, 0, at(on(2000, 12, 31), 23, 59, 59, 0)},
		{-2203891200, 0, on(1900, 3, 1)},
		{-2203891201, 0, at(on(1900, 2, 28), 23, 59, 59, 0)},
	} {
		if m, e := moment.At(c.stamp, c.zone); m != c.want || e != api.OK {
			t.Errorf("At(%d, %d): %+v, %d", c.stamp, c.zone, m, e)
		}
	}
}

// P2.5
func TestOrder(t *testing.T) {
	a, b := at(on(2026, 2, 1), 10, 0, 0, 60), at(on(2026, 2, 1), 9, 0, 0, 0)
	none, alsoNone := api.Moment{}, at(on(2026, 2, 1), 24, 0, 0, 0)
	for _, c := range []struct {
		a, b api.Moment
		want int
	}{
		{a, b, 0}, {b, a, 0}, {a, a, 0},
		{b, at(b, 9, 0, 1, 0), -1}, {at(b, 9, 0, 1, 0), b, 1},
		{a, at(on(2026, 2, 1), 10, 0, 0, 0), -1}, {at(on(2026, 2, 1), 10, 0, 0, 0), a, 1},
		{on(1, 1, 1), none, 1}, {none, on(1, 1, 1), -1},
		{none, alsoNone, 0}, {alsoNone, none, 0}, {none, none, 0},
		{on(9999, 12, 31), alsoNone, 1}, {alsoNone, on(1969, 12, 31), -1}, {on(1970, 1, 1), none, 1}, {none, on(1970, 1, 1), -1},
	} {
		if got := moment.Order(c.a, c.b); got != c.want {
			t.Errorf("Order(%+v, %+v): %d", c.a, c.b, got)
		}
	}
}

// P2.5, P2.13
func TestOrderIsAnOrder(t *testing.T) {
	r := rand.New(rand.NewPCG(2, 13))
	var list []api.Moment
	for range 20 {
		m := randomMoment(r)
		list = append(list, m)
		for range 2 {
			if other, e := moment.At(moment.Stamp(m)+r.IntN(2), r.IntN(2879)-1439); e == api.OK {
				list = append(list, other)
			}
		}
	}
	for i, m := range edges() {
		if i%9 == 0 {
			list = append(list, m)
		}
	}
	for _, a := range list {
		for _, b := range list {
			ab := moment.Order(a, b)
			if ab != -moment.Order(b, a) || ab < -1 || ab > 1 {
				t.Fatalf("Order(%+v, %+v): %d, and exchanged %d", a, b, ab, moment.Order(b, a))
			}
			for _, c := range list {
				if bc := moment.Order(b, c); ab <= 0 && bc <= 0 && moment.Order(a, c) != min(ab, bc) {
					t.Fatalf("Order: %+v, %+v, %+v: %d, %d, %d", a, b, c, ab, bc, moment.Order(a, c))
				}
			}
		}
	}
}

// P2.13
func TestOrderDoesNotHangOnZones(t *testing.T) {
	r := rand.New(rand.NewPCG(2, 14))
	stamps := []int{firstStamp, firstStamp + 86340, -1, 0, 1, lastStamp - 86340, lastStamp}
	for range 2000 {
		stamps = append(stamps, firstStamp+r.IntN(lastStamp-firstStamp))
	}
	for _, stamp := range stamps {
		a, ea := moment.At(stamp, r.IntN(2879)-1439)
		b, eb := moment.At(stamp, r.IntN(2879)-1439)
		if ea != api.OK || eb != api.OK {
			continue
		}
		if got := moment.Order(a, b); got != 0 {
			t.Errorf("Order(%+v, %+v): %d", a, b, got)
		}
		next, e := moment.At(stamp+1, b.Zone)
		if e == api.OK && (moment.Order(a, next) != -1 || moment.Order(next, a) != 1) {
			t.Errorf("Order(%+v, %+v): %d, and exchanged %d", a, next, moment.Order(a, next), moment.Order(next, a))
		}
	}
}

// P2.10
func TestStampsThereAndBack(t *testing.T) {
	r := rand.New(rand.NewPCG(2, 10))
	for range 50000 {
		m := randomMoment(r)
		if back, e := moment.At(moment.Stamp(m), m.Zone); back != m || e != api.OK {
			t.Fatalf("At(Stamp) of %+v: %+v, %d", m, back, e)
		}
		stamp, zone := firstStamp-90000+r.IntN(lastStamp-firstStamp+180000), r.IntN(2879)-1439
		if r.IntN(2) == 0 {
			stamp = []int{firstStamp, 0, lastStamp}[r.IntN(3)] + r.IntN(180000) - 90000
		}
		local := stamp + 60*zone
		back, e := moment.At(stamp, zone)
		if taken := local >= firstStamp && local <= lastStamp; taken != (e == api.OK) {
			t.Fatalf("At(%d, %d): %d", stamp, zone, e)
		}
		if e == api.OK && (moment.Stamp(back) != stamp || back.Zone != zone) {
			t.Fatalf("Stamp(At(%d, %d)): %d", stamp, zone, moment.Stamp(back))
		}
	}
}

// P2.10
func TestStampRisesFromSecondToSecond(t *testing.T) {
	for _, zone := range []int{-1439, -90, 0, 1, 1439} {
		for _, day := range []api.Moment{on(1, 1, 1), on(1, 12, 31), on(1969, 12, 31), on(1970, 1, 1), on(1900, 2, 28), on(2000, 2, 28), on(2000, 2, 29), on(9999, 12, 30)} {
			m := at(day, 23, 0, 0, zone)
			for stamp := moment.Stamp(m); m.Hour != 1; stamp++ {
				back, e := moment.At(stamp, zone)
				if moment.Stamp(m) != stamp || back != m || e != api.OK {
					t.Fatalf("%+v: %d, not %d; back: %+v, %d", m, moment.Stamp(m), stamp, back, e)
				}
				m = secondBehind(m)
			}
		}
	}
}

// P2.2, P2.4, P2.11
func TestEveryDay(t *testing.T) {
	m := on(1, 1, 1)
	days, weekday := moment.Days(m), moment.Weekday(m)
	for ; m.Year <= 9999; m = dayBehind(m) {
		if moment.Days(m) != days || moment.Weekday(m) != weekday {
			t.Fatalf("%+v: %d days, weekday %d; not %d, %d", m, moment.Days(m), moment.Weekday(m), days, weekday)
		}
		if back, e := moment.At(86400*days, 0); back != m || e != api.OK {
			t.Fatalf("At of the day %d: %+v, %d", days, back, e)
		}
		days++
		weekday = (weekday + 1) % 7
	}
	if days != 2932897 {
		t.Errorf("the calendar ends ahead of the day %d", days)
	}
}

// P2.11
func TestFourHundredYears(t *testing.T) {
	for year := 1; year <= 9599; year++ {
		from, to := on(year, 3, 1), on(year+400, 3, 1)
		if moment.Days(to)-moment.Days(from) != 146097 || moment.Weekday(to) != moment.Weekday(from) {
			t.Fatalf("from %d: %d days", year, moment.Days(to)-moment.Days(from))
		}
	}
}

// P2.9
func TestNumbersAtTheEndsOfInt(t *testing.T) {
	ends := []int{math.MinInt, -1, 0, 1, math.MaxInt}
	for n := range 5 * 5 * 5 * 5 * 5 * 5 * 5 {
		pick := func() int {
			p := ends[n%5]
			n /= 5
			return p
		}
		m := at(on(pick(), pick(), pick()), pick(), pick(), pick(), pick())
		is := m == at(on(1, 1, 1), m.Hour, m.Minute, m.Second, m.Zone) &&
			min(m.Hour, m.Minute, m.Second) >= 0 && max(m.Hour, m.Minute, m.Second, m.Zone) <= 1 && m.Zone >= -1
		if moment.Valid(m) != is || !is && (moment.Days(m) != 0 || moment.Weekday(m) != 0 || moment.Stamp(m) != 0) {
			t.Fatalf("%+v: %v", m, moment.Valid(m))
		}
		isDay := m.Year == 1 && m.Month == 1 && m.Day == 1
		want := api.OK
		switch {
		case !isDay:
			want = api.ErrDay
		case !is:
			want = api.ErrMoment
		}
		internal, e1 := moment.PrintInternal(m)
		header, e2 := moment.PrintHeader(m)
		day, e3 := moment.PrintDay(m)
		if e1 != want || e2 != want || (e3 == api.OK) != isDay || !isDay && e3 != api.ErrDay {
			t.Fatalf("%+v: %d, %d, %d", m, e1, e2, e3)
		}
		if (internal == "") != (e1 != api.OK) || (header == "") != (e2 != api.OK) || (day == "") != (e3 != api.OK) {
			t.Fatalf("%+v: %q, %q, %q", m, internal, header, day)
		}
		if moment.Order(m, m) != 0 {
			t.Fatalf("Order of %+v with itself: %d", m, moment.Order(m, m))
		}
	}
}

// answers holds all calls together, so that they can be made in any order.
func answers() []func() any {
	type read struct {
		m api.Moment
		e api.Errno
	}
	type written struct {
		s string
		e api.Errno
	}
	var calls []func() any
	for _, m := range []api.Moment{{}, on(1, 1, 1), at(on(2026, 2, 1), 10, 0, 0, 60), at(on(2000, 2, 29), 24, 0, 0, 0), on(2026, 2, 30)} {
		calls = append(calls,
			func() any { return moment.Valid(m) }, func() any { return moment.Stamp(m) }, func() any { return moment.Weekday(m) }, func() any { return moment.Days(m) },
			func() any { return moment.Order(m, on(1999, 1, 1)) },
			func() any { s, e := moment.PrintInternal(m); return written{s, e} },
			func() any { s, e := moment.PrintDay(m); return written{s, e} },
			func() any { s, e := moment.PrintHeader(m); return written{s, e} })
	}
	for _, n := range []int{0, -1, lastStamp, lastStamp + 1, math.MinInt} {
		calls = append(calls, func() any { m, e := moment.At(n, 0); return read{m, e} }, func() any { m, e := moment.At(0, n); return read{m, e} })
	}
	for _, s := range []string{"", " 1-Feb-2026 10:00:00 +0130", "1-Feb-2026", "30-Feb-2026", "Sun, 1 Feb 2026 10:00 EST", "1 Feb 2026 10:00 (", "30 Feb 2026 10:00", "x"} {
		calls = append(calls,
			func() any { m, e := moment.ReadInternal(s); return read{m, e} },
			func() any { m, e := moment.ReadDay(s); return read{m, e} },
			func() any { m, e := moment.ReadHeader(s); return read{m, e} })
	}
	return calls
}

// P2.9
func TestCallsInAnyOrderAnswerTheSame(t *testing.T) {
	calls := answers()
	var first []any
	for _, call := range calls {
		first = append(first, call())
	}
	order := make([]int, len(calls))
	for i := range order {
		order[i] = i
	}
	r := rand.New(rand.NewPCG(2, 9))
	for range 200 {
		r.Shuffle(len(order), func(i, j int) { order[i], order[j] = order[j], order[i] })
		for _, i := range order {
			if got := calls[i](); got != first[i] {
				t.Fatalf("call %d: %v, and before %v", i, got, first[i])
			}
		}
	}
}
