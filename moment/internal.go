package moment

import (
	"strings"

	"postbag/api"
)

const (
	internalLength = len("01-Feb-2026 10:00:00 +0130")
	dayLength      = len("01-Feb-2026")
	clockAt        = len("01-Feb-2026 ")
	zoneAt         = len("01-Feb-2026 10:00:00 ")
)

// ReadInternal reads a date and time as IMAP has it.
func ReadInternal(s string) (api.Moment, api.Errno) {
	if len(s) != internalLength || s[clockAt-1] != ' ' || s[zoneAt-1] != ' ' {
		return api.Moment{}, api.ErrMoment
	}
	// With a blank in place of its first digit the day is written as ReadDay has it.
	day := strings.TrimPrefix(s[:dayLength], " ")
	var m api.Moment
	formed := takeDay(&m, day) && takeClock(&m, s[clockAt:zoneAt-1]) && takeZone(&m, s[zoneAt:])
	return judge(m, formed)
}

// PrintInternal writes it.
func PrintInternal(m api.Moment) (string, api.Errno) {
	if e := printable(m); e != api.OK {
		return "", e
	}
	day := dayText(m)
	if len(day) < dayLength {
		day = " " + day
	}
	return day + " " + clockText(m) + " " + zoneText(m.Zone), api.OK
}

// ReadDay reads a day as SEARCH has it.
func ReadDay(s string) (api.Moment, api.Errno) {
	var m api.Moment
	formed := takeDay(&m, s)
	return judge(m, formed)
}

// PrintDay writes it.
func PrintDay(m api.Moment) (string, api.Errno) {
	if !isDay(m) {
		return "", api.ErrDay
	}
	return dayText(m), api.OK
}

func takeDay(m *api.Moment, s string) bool {
	// All but the day's digits is of one length.
	digits := len(s) - len("-Feb-2026")
	if !within(digits, 1, 2) {
		return false
	}
	day, month, year := s[:digits], s[digits:digits+5], s[digits+5:]
	var isNumber, isMonth, isYear bool
	m.Day, isNumber = number(day, 1, 2)
	m.Month, isMonth = monthOf(month[1:4])
	m.Year, isYear = number(year, 4, 4)
	return isNumber && isMonth && isYear && month[0] == '-' && month[4] == '-'
}

// takeClock is for a text of eight bytes.
func takeClock(m *api.Moment, s string) bool {
	var isHour, isMinute, isSecond bool
	m.Hour, isHour = number(s[:2], 2, 2)
	m.Minute, isMinute = number(s[3:5], 2, 2)
	m.Second, isSecond = number(s[6:], 2, 2)
	return isHour && isMinute && isSecond && s[2] == ':' && s[5] == ':' && isClock(*m)
}
