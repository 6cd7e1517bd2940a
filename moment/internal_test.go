package moment_test

import (
	"math/rand/v2"
	"regexp"
	"slices"
	"strconv"
	"strings"
	"testing"

	"postbag/api"
	"postbag/moment"
)

const months = "jan|feb|mar|apr|may|jun|jul|aug|sep|oct|nov|dec"

var (
	internalForm = regexp.MustCompile(`(?s)\A([0-9][0-9]| [0-9])-((?i:` + months + `))-([0-9]{4}) ([01][0-9]|2[0-3]):([0-5][0-9]):([0-5][0-9]) ([+-])([01][0-9]|2[0-3])([0-5][0-9])\z`)
	dayForm      = regexp.MustCompile(`(?s)\A([0-9][0-9]?)-((?i:` + months + `))-([0-9]{4})\z`)
)

func count(digits string) int {
	n, _ := strconv.Atoi(strings.TrimSpace(digits))
	return n
}

func monthNamed(s string) int {
	return slices.Index(strings.Split(months, "|"), strings.ToLower(s)) + 1
}

func judged(m api.Moment) (api.Moment, api.Errno) {
	if m.Year < 1 || m.Month < 1 || m.Day < 1 || m.Day > lengthOf(m.Year, m.Month) {
		return api.Moment{}, api.ErrDay
	}
	return m, api.OK
}

// wantInternal reads by a form of another make.
func wantInternal(s string) (api.Moment, api.Errno) {
	p := internalForm.FindStringSubmatch(s)
	if p == nil {
		return api.Moment{}, api.ErrMoment
	}
	zone := 60*count(p[8]) + count(p[9])
	if p[7] == "-" {
		zone = -zone
	}
	return judged(at(on(count(p[3]), monthNamed(p[2]), count(p[1])), count(p[4]), count(p[5]), count(p[6]), zone))
}

func wantDay(s string) (api.Moment, api.Errno) {
	p := dayForm.FindStringSubmatch(s)
	if p == nil {
		return api.Moment{}, api.ErrMoment
	}
	return judged(on(count(p[3]), monthNamed(p[2]), count(p[1])))
}

// nearby hands on a text with one byte turned, put in or left out, at each place.
func nearby(s string, look func(string)) {
	look(s)
	for i := range len(s) + 1 {
		for c := range 256 {
			look(s[:i] + string([]byte{byte(c)}) + s[i:])
			if i < len(s) {
				look(s[:i] + string([]byte{byte(c)}) + s[i+1:])
			}
		}
		if i < len(s) {
			look(s[:i] + s[i+1:])
			look(s[:i])
		}
	}
}

func tellRead(t *testing.T, call, s string, m, want api.Moment, e, wantE api.Errno) {
	t.Helper()
	if m != want || e != wantE {
		t.Errorf("%s(%q): %+v, %d, not %+v, %d", call, s, m, e, want, wantE)
	}
}

// P2.6
func TestReadInternal(t *testing.T) {
	first := at(on(2026, 2, 1), 10, 0, 0, 90)
	for s, want := range map[string]api.Moment{
		" 1-Feb-2026 10:00:00 +0130": first,
		"01-Feb-2026 10:00:00 +0130": first,
		"01-FEB-2026 10:00:00 -0000": at(first, 10, 0, 0, 0),
		" 1-fEb-2026 10:00:00 +0000": at(first, 10, 0, 0, 0),
		"29-Feb-2000 23:59:59 +2359": at(on(2000, 2, 29), 23, 59, 59, 1439),
		"31-Dec-9999 00:00:00 -2359": at(on(9999, 12, 31), 0, 0, 0, -1439),
		" 1-Jan-0001 01:02:03 -0001": at(on(1, 1, 1), 1, 2, 3, -1),
	} {
		m, e := moment.ReadInternal(s)
		tellRead(t, "ReadInternal", s, m, want, e, api.OK)
	}
}

// P2.6
func TestReadInternalRefuses(t *testing.T) {
	for s, want := range map[string]api.Errno{
		"":                            api.ErrMoment,
		"1-Feb-2026 10:00:00 +0130":   api.ErrMoment,
		"001-Feb-2026 10:00:00 +0130": api.ErrMoment,
		" 1-Feb-2026 10:00:00 +013":   api.ErrMoment,
		" 1-Feb-2026 10:00:00 +01300": api.ErrMoment,
		" 1-Feb-2026 10:00:00 +0130 ": api.ErrMoment,
		"1 -Feb-2026 10:00:00 +0130":  api.ErrMoment,
		"  -Feb-2026 10:00:00 +0130":  api.ErrMoment,
		" 1-Feb-2026 24:00:00 +0000":  api.ErrMoment,
		" 1-Feb-2026 10:60:00 +0000":  api.ErrMoment,
		" 1-Feb-2026 10:00:60 +0000":  api.ErrMoment,
		" 1-Feb-2026  1:00:00 +0000":  api.ErrMoment,
		" 1-Feb-2026 10:00:00 +0060":  api.ErrMoment,
		" 1-Feb-2026 10:00:00 -2400":  api.ErrMoment,
		" 1-Feb-2026 10:00:00  0000":  api.ErrMoment,
		" 1-Fib-2026 10:00:00 +0000":  api.ErrMoment,
		" 1-Feb-2026\t10:00:00 +0000": api.ErrMoment,
		" 1 Feb 2026 10:00:00 +0000":  api.ErrMoment,
		"30-Feb-2026 10:00:00 +0000":  api.ErrDay,
		"29-Feb-1900 10:00:00 +0000":  api.ErrDay,
		"00-Feb-2026 10:00:00 +0000":  api.ErrDay,
		" 0-Feb-2026 10:00:00 +0000":  api.ErrDay,
		"32-Jan-2026 10:00:00 +0000":  api.ErrDay,
		" 1-Feb-0000 00:00:00 +0000":  api.ErrDay,
		"30-Feb-2026 24:00:00 +0000":  api.ErrMoment,
		"30-Feb-2026 10:00:00 +0060":  api.ErrMoment,
		" 1-Feb-0000 00:00:61 +0000":  api.ErrMoment,
	} {
		m, e := moment.ReadInternal(s)
		tellRead(t, "ReadInternal", s, m, api.Moment{}, e, want)
	}
}

// P2.6
func TestReadInternalNearTheForm(t *testing.T) {
	for _, s := range []string{" 1-Feb-2026 10:00:00 +0130", "29-Feb-2000 19:19:59 -1909", "31-Dec-9999 20:00:00 -2359", "30-Feb-2026 00:00:00 +0000", " 1-Feb-0000 00:00:00 -0000"} {
		nearby(s, func(s string) {
			want, wantE := wantInternal(s)
			m, e := moment.ReadInternal(s)
			tellRead(t, "ReadInternal", s, m, want, e, wantE)
		})
	}
}

// P2.6, P2.7, P2.8
func TestEachMonthInEachCase(t *testing.T) {
	for i, name := range strings.Split(months, "|") {
		for bits := range 8 {
			written := []byte(name)
			for k := range written {
				if bits>>k&1 == 1 {
					written[k] -= 'a' - 'A'
				}
			}
			day := on(2026, i+1, 12)
			s := "12-" + string(written) + "-2026"
			m, e := moment.ReadDay(s)
			tellRead(t, "ReadDay", s, m, day, e, api.OK)
			m, e = moment.ReadInternal(s + " 00:00:00 +0000")
			tellRead(t, "ReadInternal", s, m, day, e, api.OK)
			s = "12 " + string(written) + " 2026 0:0"
			m, e = moment.ReadHeader(s)
			tellRead(t, "ReadHeader", s, m, day, e, api.OK)
		}
	}
}

// P2.6, P2.7, P2.8
func TestWhatIsWritten(t *testing.T) {
	for _, c := range []struct {
		m                     api.Moment
		internal, day, header string
	}{
		{at(on(2026, 2, 1), 9, 5, 0, -90), " 1-Feb-2026 09:05:00 -0130", "1-Feb-2026", "Sun, 1 Feb 2026 09:05:00 -0130"},
		{at(on(2026, 2, 1), 10, 0, 0, 60), " 1-Feb-2026 10:00:00 +0100", "1-Feb-2026", "Sun, 1 Feb 2026 10:00:00 +0100"},
		{at(on(2026, 2, 9), 0, 0, 9, 0), " 9-Feb-2026 00:00:09 +0000", "9-Feb-2026", "Mon, 9 Feb 2026 00:00:09 +0000"},
		{at(on(2026, 2, 10), 0, 10, 0, -1), "10-Feb-2026 00:10:00 -0001", "10-Feb-2026", "Tue, 10 Feb 2026 00:10:00 -0001"},
		{at(on(1, 1, 1), 0, 0, 0, 1439), " 1-Jan-0001 00:00:00 +2359", "1-Jan-0001", "Mon, 1 Jan 0001 00:00:00 +2359"},
		{at(on(9999, 12, 31), 23, 59, 59, -1439), "31-Dec-9999 23:59:59 -2359", "31-Dec-9999", "Fri, 31 Dec 9999 23:59:59 -2359"},
		{at(on(476, 9, 4), 12, 0, 0, 59), " 4-Sep-0476 12:00:00 +0059", "4-Sep-0476", "Fri, 4 Sep 0476 12:00:00 +0059"},
		{at(on(2024, 2, 29), 12, 0, 0, -60), "29-Feb-2024 12:00:00 -0100", "29-Feb-2024", "Thu, 29 Feb 2024 12:00:00 -0100"},
	} {
		for _, w := range []struct {
			print func(api.Moment) (string, api.Errno)
			want  string
		}{{moment.PrintInternal, c.internal}, {moment.PrintDay, c.day}, {moment.PrintHeader, c.header}} {
			if s, e := w.print(c.m); s != w.want || e != api.OK {
				t.Errorf("%+v: %q, %d, not %q", c.m, s, e, w.want)
			}
		}
	}
}

// P2.6, P2.7, P2.8
func TestWhatIsNotWritten(t *testing.T) {
	for _, m := range edges() {
		wantE, wantDayE := api.OK, api.OK
		if _, is := known(m); !is {
			wantE = api.ErrMoment
		}
		if _, is := known(on(m.Year, m.Month, m.Day)); !is {
			wantE, wantDayE = api.ErrDay, api.ErrDay
		}
		internal, e := moment.PrintInternal(m)
		if e != wantE || (internal == "") != (e != api.OK) {
			t.Errorf("PrintInternal of %+v: %q, %d, not %d", m, internal, e, wantE)
		}
		header, e := moment.PrintHeader(m)
		if e != wantE || (header == "") != (e != api.OK) {
			t.Errorf("PrintHeader of %+v: %q, %d, not %d", m, header, e, wantE)
		}
		day, e := moment.PrintDay(m)
		if e != wantDayE || (day == "") != (e != api.OK) {
			t.Errorf("PrintDay of %+v: %q, %d, not %d", m, day, e, wantDayE)
		}
	}
}

// P2.7
func TestReadDay(t *testing.T) {
	for s, want := range map[string]api.Moment{
		"1-feb-2026":  on(2026, 2, 1),
		"01-Feb-2026": on(2026, 2, 1),
		"31-DEC-9999": on(9999, 12, 31),
		"1-Jan-0001":  on(1, 1, 1),
		"29-Feb-2000": on(2000, 2, 29),
	} {
		m, e := moment.ReadDay(s)
		tellRead(t, "ReadDay", s, m, want, e, api.OK)
	}
	for s, want := range map[string]api.Errno{
		"":                           api.ErrMoment,
		"-Feb-2026":                  api.ErrMoment,
		"001-Feb-2026":               api.ErrMoment,
		" 1-Feb-2026":                api.ErrMoment,
		"1-Feb-2026 ":                api.ErrMoment,
		"1 -Feb-2026":                api.ErrMoment,
		"1-Feb-026":                  api.ErrMoment,
		"01-Feb-026":                 api.ErrMoment,
		"1-Feb-02026":                api.ErrMoment,
		"1-Feb-26":                   api.ErrMoment,
		"+1-Feb-2026":                api.ErrMoment,
		"1-February-2026":            api.ErrMoment,
		" 1-Feb-2026 10:00:00 +0130": api.ErrMoment,
		"1/Feb/2026":                 api.ErrMoment,
		"1-2-2026":                   api.ErrMoment,
		"0-Feb-2026":                 api.ErrDay,
		"00-Feb-2026":                api.ErrDay,
		"99-Feb-2026":                api.ErrDay,
		"31-Apr-2026":                api.ErrDay,
		"29-Feb-2100":                api.ErrDay,
		"1-Jan-0000":                 api.ErrDay,
	} {
		m, e := moment.ReadDay(s)
		tellRead(t, "ReadDay", s, m, api.Moment{}, e, want)
	}
}

// P2.7
func TestReadDayNearTheForm(t *testing.T) {
	for _, s := range []string{"1-Feb-2026", "01-Mar-2026", "31-Apr-2026", "1-Jun-0000", "29-Feb-2000"} {
		nearby(s, func(s string) {
			want, wantE := wantDay(s)
			m, e := moment.ReadDay(s)
			tellRead(t, "ReadDay", s, m, want, e, wantE)
		})
	}
}

// P2.7
func TestPrintDayLooksAtTheDayAlone(t *testing.T) {
	for _, m := range []api.Moment{at(on(2026, 2, 1), 99, 0, 0, 0), at(on(2026, 2, 1), -1, 60, 61, 1440), at(on(2026, 2, 1), 0, 0, 0, -1440), on(2026, 2, 1)} {
		if s, e := moment.PrintDay(m); s != "1-Feb-2026" || e != api.OK {
			t.Errorf("PrintDay of %+v: %q, %d", m, s, e)
		}
	}
}

// P2.12
func TestWhatIsWrittenIsRead(t *testing.T) {
	r := rand.New(rand.NewPCG(2, 12))
	list := slices.DeleteFunc(edges(), func(m api.Moment) bool { return !moment.Valid(m) })
	for range 20000 {
		list = append(list, randomMoment(r))
	}
	for _, m := range list {
		s, _ := moment.PrintInternal(m)
		if back, e := moment.ReadInternal(s); back != m || e != api.OK {
			t.Fatalf("%+v: %q is read as %+v, %d", m, s, back, e)
		}
		s, _ = moment.PrintHeader(m)
		if back, e := moment.ReadHeader(s); back != m || e != api.OK {
			t.Fatalf("%+v: %q is read as %+v, %d", m, s, back, e)
		}
		s, _ = moment.PrintDay(m)
		if back, e := moment.ReadDay(s); back != on(m.Year, m.Month, m.Day) || e != api.OK {
			t.Fatalf("%+v: %q is read as %+v, %d", m, s, back, e)
		}
	}
}

// P2.12
func TestWhatIsReadIsWrittenInOneForm(t *testing.T) {
	for s, want := range map[string]string{
		"01-FEB-2026 10:00:00 -0000": " 1-Feb-2026 10:00:00 +0000",
		" 1-feb-2026 10:00:00 +0000": " 1-Feb-2026 10:00:00 +0000",
		"09-sEP-2026 00:00:00 -0001": " 9-Sep-2026 00:00:00 -0001",
		"10-Dec-9999 23:59:59 +2359": "10-Dec-9999 23:59:59 +2359",
	} {
		m, _ := moment.ReadInternal(s)
		got, e := moment.PrintInternal(m)
		if got != want || e != api.OK {
			t.Errorf("%q is written %q, %d", s, got, e)
		}
		if back, e := moment.ReadInternal(got); back != m || e != api.OK {
			t.Errorf("%q is read as %+v, %d", got, back, e)
		}
	}
}

// P2.9
func TestLongTexts(t *testing.T) {
	for _, piece := range []string{"", "1", "-", "Feb", " ", ":", "+0000", "(", ")", "\\", "(\\", "()", "\x00", "\xff", "é", ",", "Sun,"} {
		long := strings.Repeat(piece, 300000)
		for _, s := range []string{long, long + "1-Feb-2026", "1-Feb-2026" + long, "1 Feb 2026 10:00" + long} {
			for _, read := range []func(string) (api.Moment, api.Errno){moment.ReadInternal, moment.ReadDay, moment.ReadHeader} {
				if m, e := read(s); e != api.OK && m != (api.Moment{}) {
					t.Errorf("%d times %q: %+v, %d", 300000, piece, m, e)
				}
			}
		}
	}
}
