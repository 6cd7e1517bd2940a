package moment

import (
	"strconv"
	"strings"

	"postbag/api"
)

// judge is what all that reads answers, of what it took from a text.
func judge(m api.Moment, formed bool) (api.Moment, api.Errno) {
	switch {
	case !formed:
		return api.Moment{}, api.ErrMoment
	case !isDay(m):
		return api.Moment{}, api.ErrDay
	}
	return m, api.OK
}

func printable(m api.Moment) api.Errno {
	switch {
	case !isDay(m):
		return api.ErrDay
	case !Valid(m):
		return api.ErrMoment
	}
	return api.OK
}

// number reads from least to most digits; few, so that none of them can overflow.
func number(s string, least, most int) (int, bool) {
	if !within(len(s), least, most) {
		return 0, false
	}
	n := 0
	for i := range len(s) {
		if !isDigit(s[i]) {
			return 0, false
		}
		n = 10*n + int(s[i]-'0')
	}
	return n, true
}

func isDigit(c byte) bool { return '0' <= c && c <= '9' }

// same knows the case of ASCII alone.
func same(a, b string) bool {
	if len(a) != len(b) {
		return false
	}
	for i := range len(a) {
		if small(a[i]) != small(b[i]) {
			return false
		}
	}
	return true
}

func small(c byte) byte {
	if 'A' <= c && c <= 'Z' {
		return c + ('a' - 'A')
	}
	return c
}

func monthOf(s string) (int, bool) {
	for i, name := range monthNames {
		if same(s, name) {
			return i + 1, true
		}
	}
	return 0, false
}

func isWeekday(s string) bool {
	for _, name := range weekdayNames {
		if same(s, name) {
			return true
		}
	}
	return false
}

// takeZone reads a sign and four digits.
func takeZone(m *api.Moment, s string) bool {
	if len(s) != len("+0130") {
		return false
	}
	hours, isHours := number(s[1:3], 2, 2)
	minutes, isMinutes := number(s[3:], 2, 2)
	m.Zone = 60*hours + minutes
	if s[0] == '-' {
		m.Zone = -m.Zone
	}
	return isHours && isMinutes && hours <= 23 && minutes <= 59 && (s[0] == '+' || s[0] == '-')
}

// padded is for a number that is not below 0.
func padded(n, width int) string {
	s := strconv.Itoa(n)
	return strings.Repeat("0", max(0, width-len(s))) + s
}

func dayText(m api.Moment) string {
	return strconv.Itoa(m.Day) + "-" + monthNames[m.Month-1] + "-" + padded(m.Year, 4)
}

func clockText(m api.Moment) string {
	return padded(m.Hour, 2) + ":" + padded(m.Minute, 2) + ":" + padded(m.Second, 2)
}

func zoneText(zone int) string {
	sign := "+"
	if zone < 0 {
		sign, zone = "-", -zone
	}
	return sign + padded(zone/60, 2) + padded(zone%60, 2)
}
