package cron

import "consignor/api"

const (
	hourMinutes = 60
	dayMinutes  = 24 * hourMinutes
	weekDays    = 7
	firstWeek   = 4 // of tick 0, a Thursday

	yearDays    = 365
	fourDays    = 4*yearDays + 1    // of four years: the last one is long
	hundredDays = 25*fourDays - 1   // of a hundred: the last one is not
	cycleDays   = 4*hundredDays + 1 // of four hundred: the last one is, and all begins anew

	cycleYear  = 1601                                   // in which a cycle began
	cycleBegun = 3*hundredDays + 17*fourDays + yearDays // its days ahead of tick 0

	february = 2
)

// monthDays is how many days a month has, but for February of a long year.
var monthDays = [...]int{1: 31, 28, 31, 30, 31, 30, 31, 31, 30, 31, 30, 31}

// clock is the time of what is a tick.
func clock(tick int) api.Clock {
	date, minute := tick/dayMinutes, tick%dayMinutes
	year, behind := yearOf(date + cycleBegun)
	month, day := monthOf(year, behind)
	return api.Clock{
		Minute: minute % hourMinutes,
		Hour:   minute / hourMinutes,
		Day:    day,
		Month:  month,
		Year:   year,
		Week:   (date + firstWeek) % weekDays,
	}
}

// yearOf is the year of a day that is so many days behind a cycle's begin, and how many days behind the year's begin it is.
func yearOf(day int) (year, behind int) {
	year = cycleYear + day/cycleDays*400
	day %= cycleDays
	// a cycle's last day would be the first one of a fifth hundred
	hundreds := min(day/hundredDays, 3)
	year += hundreds * 100
	day -= hundreds * hundredDays
	year += day / fourDays * 4
	day %= fourDays
	// and that of a long year the first one of a fifth year
	ones := min(day/yearDays, 3)
	return year + ones, day - ones*yearDays
}

// monthOf is the month of a day that is so many days behind a year's begin, and which day of the month it is.
func monthOf(year, behind int) (month, day int) {
	month = 1
	for behind >= daysOf(year, month) {
		behind -= daysOf(year, month)
		month++
	}
	return month, behind + 1
}

func daysOf(year, month int) int {
	if month == february && isLong(year) {
		return monthDays[month] + 1
	}
	return monthDays[month]
}

func isLong(year int) bool {
	return year%4 == 0 && (year%100 != 0 || year%400 == 0)
}
