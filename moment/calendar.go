package moment

import "postbag/api"

const (
	february = 2

	daysOfYear    = 365
	daysOfFour    = 4*daysOfYear + 1
	daysOfHundred = 25*daysOfFour - 1
	daysOfCycle   = 4*daysOfHundred + 1 // 400 years, behind which the calendar begins anew
)

// The days of the week; 1 January 1970, from which days are counted, was a Thursday.
const (
	sunday = iota
	monday
	tuesday
	wednesday
	thursday
	friday
	saturday
	daysOfWeek
)

var weekdayNames = [daysOfWeek]string{
	sunday: "Sun", monday: "Mon", tuesday: "Tue", wednesday: "Wed", thursday: "Thu", friday: "Fri", saturday: "Sat",
}

var monthNames = [...]string{"Jan", "Feb", "Mar", "Apr", "May", "Jun", "Jul", "Aug", "Sep", "Oct", "Nov", "Dec"}

var monthLengths = [...]int{31, 28, 31, 30, 31, 30, 31, 31, 30, 31, 30, 31}

func isLeap(year int) bool { return year%4 == 0 && (year%100 != 0 || year%400 == 0) }

func monthLength(year, month int) int {
	if month == february && isLeap(year) {
		return 29
	}
	return monthLengths[month-1]
}

func isDay(m api.Moment) bool {
	return within(m.Year, firstYear, lastYear) && within(m.Month, 1, len(monthLengths)) &&
		within(m.Day, 1, monthLength(m.Year, m.Month))
}

// dayNumber is for a day that there is.
func dayNumber(m api.Moment) int {
	past := m.Year - firstYear
	days := firstDay + daysOfYear*past + past/4 - past/100 + past/400
	for month := 1; month < m.Month; month++ {
		days += monthLength(m.Year, month)
	}
	return days + m.Day - 1
}

// dayAt is for a number between firstDay and lastDay.
func dayAt(number int) api.Moment {
	cycles, rest := split(number-firstDay, daysOfCycle)
	hundreds, rest := splitMost(rest, daysOfHundred, 3)
	fours, rest := split(rest, daysOfFour)
	ones, rest := splitMost(rest, daysOfYear, 3)
	m := api.Moment{Year: firstYear + 400*cycles + 100*hundreds + 4*fours + ones, Month: 1}
	for rest >= monthLength(m.Year, m.Month) {
		rest -= monthLength(m.Year, m.Month)
		m.Month++
	}
	m.Day = rest + 1
	return m
}

// split divides and rounds down: Go's own division goes towards 0, and would put what lies ahead of 1970 on the wrong day.
func split(n, by int) (whole, rest int) {
	whole, rest = n/by, n%by
	if rest < 0 {
		whole--
		rest += by
	}
	return whole, rest
}

// splitMost leaves in the rest what goes beyond most: the leap day by which the last of four years, or of four hundreds of years, is longer than the others.
func splitMost(n, by, most int) (whole, rest int) {
	whole, rest = split(n, by)
	if whole > most {
		return most, n - most*by
	}
	return whole, rest
}
