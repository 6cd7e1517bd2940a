package moment_test

import (
	"math/rand/v2"
	"regexp"
	"strings"
	"testing"

	"postbag/api"
	"postbag/moment"
)

const letterZones = "EST -300 EDT -240 CST -360 CDT -300 MST -420 MDT -360 PST -480 PDT -420"

var headerForm = regexp.MustCompile(`(?s)\A_*(?:(?i:sun|mon|tue|wed|thu|fri|sat)_*,_*)?` +
	`([0-9]{1,2})_*((?i:` + months + `))_*([0-9]{2,4})_+` +
	`([0-9]{1,2})_*:_*([0-9]{1,2})(?:_*:_*([0-9]{1,2}))?` +
	`(?:_*([A-Za-z]+|[+-][0-9]{4}))?_*\z`)

// bare makes each blank and each comment a byte that nothing else may be.
func bare(s string) string {
	var b strings.Builder
	for s != "" {
		c := s[0]
		switch {
		case c == '(':
			s = behindComment(s[1:])
			b.WriteByte('_')
			continue
		case strings.IndexByte(" \t\r\n", c) >= 0:
			c = '_'
		case c == '_':
			c = '?'
		}
		b.WriteByte(c)
		s = s[1:]
	}
	return b.String()
}

func behindComment(s string) string {
	for s != "" {
		switch c := s[0]; {
		case c == ')':
			return s[1:]
		case c == '(':
			s = behindComment(s[1:])
		case c == '\\' && len(s) > 1:
			s = s[2:]
		default:
			s = s[1:]
		}
	}
	return ""
}

// wantHeader reads by a form of another make.
func wantHeader(s string) (api.Moment, api.Errno) {
	p := headerForm.FindStringSubmatch(bare(s))
	if p == nil {
		return api.Moment{}, api.ErrMoment
	}
	m := at(on(count(p[3]), monthNamed(p[2]), count(p[1])), count(p[4]), count(p[5]), count(p[6]), 0)
	if m.Hour > 23 || m.Minute > 59 || m.Second > 60 {
		return api.Moment{}, api.ErrMoment
	}
	if m.Second == 60 {
		m.Second = 59
	}
	switch {
	case len(p[3]) == 2 && m.Year <= 49:
		m.Year += 2000
	case len(p[3]) < 4:
		m.Year += 1900
	}
	zone := p[7]
	switch {
	case zone == "":
	case zone[0] == '+' || zone[0] == '-':
		hours, minutes := count(zone[1:3]), count(zone[3:])
		if hours > 23 || minutes > 59 {
			return api.Moment{}, api.ErrMoment
		}
		m.Zone = 60*hours + minutes
		if zone[0] == '-' {
			m.Zone = -m.Zone
		}
	case len(zone) == 3:
		if _, behind, is := strings.Cut(letterZones, strings.ToUpper(zone)+" -"); is {
			m.Zone = -count(behind[:3])
		}
	}
	return judged(m)
}

// P2.8
func TestReadHeader(t *testing.T) {
	day := on(2026, 2, 1)
	for s, want := range map[string]api.Moment{
		"Sun, 1 Feb 2026 10:00 +0100":                            at(day, 10, 0, 0, 60),
		"1 (a (b\\)) c) feb 26 1:2:60 pst (x":                    at(day, 1, 2, 59, -480),
		"Tue, 1 Feb 99 10:00":                                    at(on(1999, 2, 1), 10, 0, 0, 0),
		"1 Feb 101 10:00 Z":                                      at(on(2001, 2, 1), 10, 0, 0, 0),
		"1Feb2026 10:00GMT":                                      at(day, 10, 0, 0, 0),
		"1Feb2026(x)10:00+0100":                                  at(day, 10, 0, 0, 60),
		"Sun,01Feb2026\t10:00:01-0100":                           at(day, 10, 0, 1, -60),
		"\r\n\t sun \r , \n 1 Feb 2026 10 : 00 : 07 +0000\r\n":   at(day, 10, 0, 7, 0),
		"(((())))1 Feb 2026 10:00":                               at(day, 10, 0, 0, 0),
		"(\\()1 Feb 2026 10:00":                                  at(day, 10, 0, 0, 0),
		"(\\\\)1 Feb 2026 10:00":                                 at(day, 10, 0, 0, 0),
		"1 Feb 2026 10:00 (no end ( at all )":                    at(day, 10, 0, 0, 0),
		"1 Feb 2026 10:00 (no end \\":                            at(day, 10, 0, 0, 0),
		"1 Feb 2026 10:00 (no end \\)":                           at(day, 10, 0, 0, 0),
		"1 Feb 2026 10:00 (\x00\xff\r)":                          at(day, 10, 0, 0, 0),
		"1 Feb 2026 10:00:00 -0000":                              at(day, 10, 0, 0, 0),
		"1 Feb 2026 23:59:59 +2359":                              at(day, 23, 59, 59, 1439),
		"1 Feb 2026 0:0:0 -2359":                                 at(day, 0, 0, 0, -1439),
		"SAT, 1 FEB 2026 00:00 gmt":                              day,
		"wed (not so) , (a) 1 (b) Feb (c) 26 (d) 3 (e) : (f) 04": at(day, 3, 4, 0, 0),
	} {
		m, e := moment.ReadHeader(s)
		tellRead(t, "ReadHeader", s, m, want, e, api.OK)
	}
}

// P2.8
func TestReadHeaderRefuses(t *testing.T) {
	for _, s := range []string{
		"", " ", "(", "(1 Feb 2026 10:00)", "()",
		"1", "1 Feb", "1 Feb 2026", "1 Feb 2026 10", "1 Feb 2026 10:", "1 Feb 2026 10:00:", "1 Feb 2026 10:00: GMT",
		"Sun 1 Feb 2026 10:00", ", 1 Feb 2026 10:00", "Sunday, 1 Feb 2026 10:00", "Sun,, 1 Feb 2026 10:00", "Su, 1 Feb 2026 10:00", "Feb, 1 Feb 2026 10:00", "Sun, Sun, 1 Feb 2026 10:00", "S un, 1 Feb 2026 10:00", "Sun, ",
		"001 Feb 2026 10:00", "1 1 Feb 2026 10:00", "+1 Feb 2026 10:00", "-1 Feb 2026 10:00", "Feb 1 2026 10:00", "1 2 2026 10:00", "1 February 2026 10:00", "1 Fe 2026 10:00", "1-Feb-2026 10:00",
		"1 Feb 6 10:00", "1 Feb 02026 10:00", "1 Feb 12026 10:00", "1 Feb 202610:00", "1 Feb +2026 10:00", "1 Feb 20 26 10:00",
		"1 Feb 2026 24:00", "1 Feb 2026 10:60", "1 Feb 2026 010:00", "1 Feb 2026 10:000", "1 Feb 2026 10:00:61", "1 Feb 2026 10:00:000", "1 Feb 2026 10.00", "1 Feb 2026 10:00:00:00", "1 Feb 2026 1000", "1 Feb 2026 10 00",
		"1 Feb 2026 10:00 + 0100", "1 Feb 2026 10:00 +", "1 Feb 2026 10:00 -x", "1 Feb 2026 10:00 +(x)0100", "1 Feb 2026 10:00 +010", "1 Feb 2026 10:00 +01000", "1 Feb 2026 10:00 +0160", "1 Feb 2026 10:00 -2400", "1 Feb 2026 10:00 0100", "1 Feb 2026 10:00 ++0100",
		"1 Feb 2026 10:00 GMT x", "1 Feb 2026 10:00 +0000 GMT", "1 Feb 2026 10:00 GMT +0000", "1 Feb 2026 10:00 GMT,", "1 Feb 2026 10:00 GMT 1", "1 Feb 2026 10:00 )", "1 Feb 2026 10:00 GMT)", "1 Feb 2026 10:00 é", "1 Feb 2026 10:00 \x00", "1 Feb 2026 10:00 \\(", "1 Feb 2026 10:00 _",
		"1 Feb 2026 10:00\v", "1 Feb 2026\f10:00", ")", "\\",
		"30 Feb 2026 24:00", "30 Feb 2026 10:00 x x", "0 Feb 2026", "1 Feb 0000 10:00 !",
	} {
		m, e := moment.ReadHeader(s)
		tellRead(t, "ReadHeader", s, m, api.Moment{}, e, api.ErrMoment)
	}
	for _, s := range []string{"30 Feb 2026 10:00", "0 Feb 2026 10:00", "00 Feb 2026 10:00", "99 Feb 2026 10:00", "1 Feb 0000 10:00", "29 Feb 1900 10:00", "29 Feb 000 10:00", "Sun, 31 Apr 26 1:1:60 EST (x"} {
		m, e := moment.ReadHeader(s)
		tellRead(t, "ReadHeader", s, m, api.Moment{}, e, api.ErrDay)
	}
}

// P2.8
func TestYearsOfAHeader(t *testing.T) {
	for year, want := range map[string]int{
		"00": 2000, "01": 2001, "49": 2049, "50": 1950, "99": 1999,
		"000": 1900, "001": 1901, "049": 1949, "101": 2001, "999": 2899,
		"0001": 1, "0049": 49, "1000": 1000, "9999": 9999,
	} {
		m, e := moment.ReadHeader("1 Feb " + year + " 0:0")
		tellRead(t, "ReadHeader", year, m, on(want, 2, 1), e, api.OK)
	}
	for _, year := range []string{"0", "9", "00000", "02026", "12026", "99999999999999999999999"} {
		m, e := moment.ReadHeader("1 Feb " + year + " 0:0")
		tellRead(t, "ReadHeader", year, m, api.Moment{}, e, api.ErrMoment)
	}
}

// P2.8
func TestZonesInLetters(t *testing.T) {
	zones := map[string]int{"GMT": 0, "UT": 0, "UTC": 0, "Z": 0, "A": 0, "EET": 0, "ES": 0, "ESTE": 0, "BST": 0, "JST": 0, "E": 0, "Sun": 0, "Feb": 0, strings.Repeat("EST", 1000): 0}
	fields := strings.Fields(letterZones)
	for i := 0; i < len(fields); i += 2 {
		zones[fields[i]] = -count(fields[i+1][1:])
	}
	for name, want := range zones {
		for _, s := range []string{name, strings.ToLower(name), name[:1] + strings.ToLower(name[1:]), strings.ToLower(name[:1]) + name[1:]} {
			m, e := moment.ReadHeader("1 Feb 2026 10:00 " + s)
			tellRead(t, "ReadHeader", s, m, at(on(2026, 2, 1), 10, 0, 0, want), e, api.OK)
		}
	}
}

// P2.8
func TestWeekdaysOfAHeader(t *testing.T) {
	for _, name := range []string{"Sun", "Mon", "Tue", "Wed", "Thu", "Fri", "Sat"} {
		for _, s := range []string{name, strings.ToLower(name), strings.ToUpper(name)} {
			m, e := moment.ReadHeader(s + ", 1 Feb 2026 10:00")
			tellRead(t, "ReadHeader", s, m, at(on(2026, 2, 1), 10, 0, 0, 0), e, api.OK)
		}
	}
	for i, want := range []string{"Sun", "Mon", "Tue", "Wed", "Thu", "Fri", "Sat"} {
		if s, e := moment.PrintHeader(on(2026, 2, 1+i)); !strings.HasPrefix(s, want+", ") || e != api.OK {
			t.Errorf("PrintHeader of %d February 2026: %q, %d", 1+i, s, e)
		}
	}
}

// P2.8
func TestReadHeaderNearTheForm(t *testing.T) {
	for _, s := range []string{
		"Sun, 1 Feb 2026 10:00:00 +0100",
		"1 Feb 26 1:2 pst",
		"(a(b)\\)c) 29 Feb 000 23:59:60 -2359 (x",
		"31 Dec 9999 0:0",
		"mon,31 Apr 99\t9:09:9Z",
	} {
		nearby(s, func(s string) {
			want, wantE := wantHeader(s)
			m, e := moment.ReadHeader(s)
			tellRead(t, "ReadHeader", s, m, want, e, wantE)
		})
	}
}

// P2.8
func TestReadHeaderOfManyPieces(t *testing.T) {
	r := rand.New(rand.NewPCG(2, 8))
	// Each place has what may stand there, and what may not, which comes up now and then.
	pick := func(fit, unfit string) string {
		from := fit
		if r.IntN(30) == 0 {
			from = unfit
		}
		list := strings.Split(from, "|")
		return list[r.IntN(len(list))]
	}
	good := 0
	for range 100000 {
		var b strings.Builder
		for _, p := range [][2]string{
			{"||Sun,|mon ,", "TUE|,|Sunday,"},
			{"1|01|29|31", "0|001|+1|"},
			{"Feb|feb|MAR|Dec", "Febr|2|"},
			{"2026|2000|26|49|50|100|999", "0000|9|02026|"},
			{"10|1|23", "24|010|"}, {":", ".|"}, {"0|00|59", "60|000|"},
			{"||:0|: 60|:59", ":61|:|:000"},
			{"|+0100|-2359|-0000|EST|pdt|Z|xyz", "+2400|+0060|+010|+ 0100|EST5"},
			{"", "x|1|,"},
		} {
			b.WriteString(pick(" | |\t|\r\n |(x)| (a (b) \\) c) ", "(|(\\|)|\\|_|"))
			b.WriteString(pick(p[0], p[1]))
		}
		s := b.String()
		want, wantE := wantHeader(s)
		if wantE == api.OK {
			good++
		}
		m, e := moment.ReadHeader(s)
		tellRead(t, "ReadHeader", s, m, want, e, wantE)
	}
	if good < 10000 {
		t.Errorf("only %d texts are of the form", good)
	}
}

// P2.9
func TestCommentsNestedDeep(t *testing.T) {
	const deep = 500000
	date, want := "1 Feb 2026 10:00", at(on(2026, 2, 1), 10, 0, 0, 0)
	s := strings.Repeat("(", deep) + strings.Repeat(")", deep) + date
	if m, e := moment.ReadHeader(s); m != want || e != api.OK {
		t.Errorf("comments that end: %+v, %d", m, e)
	}
	s = strings.Repeat("(", deep) + strings.Repeat(")", deep-1) + date
	if m, e := moment.ReadHeader(s); m != (api.Moment{}) || e != api.ErrMoment {
		t.Errorf("comments that do not: %+v, %d", m, e)
	}
}
