package rule

import "mortsafe/api"

const (
	firstYear    = 1800
	lastYear     = 2347
	lastFullYear = 2346
	february     = 2
	monthsOfYear = 12
	daysOfWeek   = 7
	mostMonths   = 12000

	// firstWeekday is that of day 0, a Wednesday.
	firstWeekday = 2
)

// DayOf returns the day with a date.
func DayOf(d api.Date) (int, api.Errno) {
	if !isFromTo(d.Year, firstYear, lastYear) {
		return 0, api.ErrRange
	}
	if !isMonth(d.Month) || !isFromTo(d.Day, 1, monthDays(d.Year, d.Month)) {
		return 0, api.ErrDate
	}
	day := dayOf(d)
	if !isDay(day) {
		return 0, api.ErrRange
	}
	return day, api.OK
}

// DateOf returns the date of a day.
func DateOf(day int) (api.Date, api.Errno) {
	if e := checkDays(day); e != api.OK {
		return api.Date{}, e
	}
	return dateOf(day), api.OK
}

// Weekday returns the weekday of a day: 0 is Monday.
func Weekday(day int) (int, api.Errno) {
	if e := checkDays(day); e != api.OK {
		return 0, e
	}
	return weekday(day), api.OK
}

// MonthDays returns how many days a month has.
func MonthDays(year, month int) (int, api.Errno) {
	if !isFromTo(year, firstYear, lastYear) {
		return 0, api.ErrRange
	}
	if !isMonth(month) {
		return 0, api.ErrDate
	}
	return monthDays(year, month), api.OK
}

// AddMonths returns the day so many months later than a day.
func AddMonths(day, months int) (int, api.Errno) {
	if e := checkDays(day); e != api.OK {
		return 0, e
	}
	if !isFromTo(months, -mostMonths, mostMonths) {
		return 0, api.ErrRange
	}
	later := monthsLater(day, months)
	if !isDay(later) {
		return 0, api.ErrRange
	}
	return later, api.OK
}

// Age returns the years, months and days from a day to another one.
func Age(from, to int) (api.Date, api.Errno) {
	if e := checkDays(from, to); e != api.OK {
		return api.Date{}, e
	}
	if to < from {
		return api.Date{}, api.ErrOrder
	}
	months := monthNumber(dateOf(to)) - monthNumber(dateOf(from))
	if monthsLater(from, months) > to {
		months--
	}
	days := to - monthsLater(from, months)
	return api.Date{Year: months / monthsOfYear, Month: months % monthsOfYear, Day: days}, api.OK
}

func isMonth(month int) bool { return isFromTo(month, 1, monthsOfYear) }

func isLeap(year int) bool {
	return year%4 == 0 && year%100 != 0 || year%400 == 0
}

func monthDays(year, month int) int {
	switch month {
	case february:
		if isLeap(year) {
			return 29
		}
		return 28
	case 4, 6, 9, 11:
		return 30
	}
	return 31
}

// leapsBefore tells how many leap years there are before a year, from year 1 on.
func leapsBefore(year int) int {
	return (year-1)/4 - (year-1)/100 + (year-1)/400
}

// newYear returns 1 January of a year. Before firstYear it is negative.
func newYear(year int) int {
	return 365*(year-firstYear) + leapsBefore(year) - leapsBefore(firstYear)
}

// dayOf returns the number of a date, which may lie outside the days.
func dayOf(d api.Date) int {
	day := newYear(d.Year) + d.Day - 1
	for month := 1; month < d.Month; month++ {
		day += monthDays(d.Year, month)
	}
	return day
}

func dateOf(day int) api.Date {
	// No year has more than 366 days, so this one is never too late.
	year := firstYear + day/366
	for newYear(year+1) <= day {
		year++
	}
	d := api.Date{Year: year, Month: 1, Day: day - newYear(year) + 1}
	for d.Day > monthDays(year, d.Month) {
		d.Day -= monthDays(year, d.Month)
		d.Month++
	}
	return d
}

func weekday(day int) int { return (day + firstWeekday) % daysOfWeek }

// monthNumber counts months over the years.
func monthNumber(d api.Date) int { return d.Year*monthsOfYear + d.Month - 1 }

// monthsLater returns the number of the day so many months later, which may lie
// outside the days.
func monthsLater(day, months int) int {
	d := dateOf(day)
	number := monthNumber(d) + months
	year, month := number/monthsOfYear, number%monthsOfYear+1
	return dayOf(api.Date{Year: year, Month: month, Day: min(d.Day, monthDays(year, month))})
}
