package rule

import (
	"iter"
	"slices"

	"mortsafe/api"
)

// The kinds of holidays.
const (
	kindDate = iota
	kindEaster
	kindWeekday
)

const (
	leapYear = 2000

	easterBefore  = 80
	easterBehind  = 240
	mostWeekdays  = 4
	lastInMonth   = -1
	saturday      = 5
	mostWorking   = 2000
	periodMonths  = 1200
	periodDays    = 36500
	periodWorking = 2000
)

// Easter returns Easter Sunday of a year.
func Easter(year int) (int, api.Errno) {
	if !isFromTo(year, firstYear, lastFullYear) {
		return 0, api.ErrRange
	}
	return easter(year), api.OK
}

// easter follows the chapter's letters.
func easter(year int) int {
	a, b, c := year%19, year/100, year%100
	g := (b - (b+8)/25 + 1) / 3
	h := (19*a + b - b/4 - g + 15) % 30
	l := (32 + 2*(b%4) + 2*(c/4) - h - c%4) % 7
	m := (a + 11*h + 22*l) / 451
	n := h + l - 7*m + 114
	return dayOf(api.Date{Year: year, Month: n / 31, Day: n%31 + 1})
}

// CheckHolidays tells whether a list is one of holidays.
func CheckHolidays(l []api.Holiday) api.Errno {
	if len(l) > api.MaxHolidays {
		return api.ErrLarge
	}
	earlier := map[string]bool{}
	for _, h := range l {
		if e := checkHoliday(h, earlier); e != api.OK {
			return e
		}
		earlier[h.Name] = true
	}
	return api.OK
}

func checkHoliday(h api.Holiday, earlier map[string]bool) api.Errno {
	if !isName(h.Name) {
		return api.ErrName
	}
	if earlier[h.Name] {
		return api.ErrExists
	}
	switch h.Kind {
	case kindDate:
		is := isMonth(h.Month) && isFromTo(h.Day, 1, monthDays(leapYear, h.Month))
		return firstError(errorIf(!is, api.ErrDate), errorIf(h.Weekday != 0, api.ErrForm))
	case kindEaster:
		is := isFromTo(h.Day, -easterBefore, easterBehind)
		return firstError(errorIf(!is, api.ErrRange), errorIf(h.Month != 0 || h.Weekday != 0, api.ErrForm))
	case kindWeekday:
		is := isFromTo(h.Day, 1, mostWeekdays) || h.Day == lastInMonth
		is = is && isFromTo(h.Weekday, 0, daysOfWeek-1)
		return firstError(errorIf(!isMonth(h.Month), api.ErrDate), errorIf(!is, api.ErrRange))
	}
	return api.ErrRange
}

// HolidaysOf returns the holidays of a year, ascending.
func HolidaysOf(l []api.Holiday, year int) ([]int, api.Errno) {
	if e := CheckHolidays(l); e != api.OK {
		return nil, e
	}
	if !isFromTo(year, firstYear, lastFullYear) {
		return nil, api.ErrRange
	}
	return holidaysOf(l, year), api.OK
}

// holidaysOf tells those of the last year, too, of which not all days are days.
func holidaysOf(l []api.Holiday, year int) []int {
	var days []int
	for _, h := range l {
		switch {
		case h.Kind == kindEaster:
			days = append(days, easter(year)+h.Day)
		case h.Kind == kindWeekday:
			days = append(days, weekdayOf(h, year))
		case h.Day <= monthDays(year, h.Month):
			days = append(days, dayOf(api.Date{Year: year, Month: h.Month, Day: h.Day}))
		}
	}
	slices.Sort(days)
	return slices.Compact(days)
}

// weekdayOf returns a holiday that is a certain weekday of a month.
func weekdayOf(h api.Holiday, year int) int {
	first := dayOf(api.Date{Year: year, Month: h.Month, Day: 1})
	if h.Day == lastInMonth {
		last := first + monthDays(year, h.Month) - 1
		return last - daysFrom(h.Weekday, weekday(last))
	}
	return first + daysFrom(weekday(first), h.Weekday) + (h.Day-1)*daysOfWeek
}

// daysFrom tells how many days there are from a weekday to the next such weekday.
func daysFrom(from, to int) int { return (to - from + daysOfWeek) % daysOfWeek }

// workingDays yields the working days from a day on, forwards with the step 1 and
// backwards with the step -1.
func workingDays(l []api.Holiday, from, step int) iter.Seq[int] {
	return func(yield func(int) bool) {
		var year int
		var closed []int
		for day := from; isDay(day); day += step {
			if y := dateOf(day).Year; y != year {
				year, closed = y, holidaysOf(l, y)
			}
			_, is := slices.BinarySearch(closed, day)
			if weekday(day) < saturday && !is && !yield(day) {
				return
			}
		}
	}
}

// IsWorking tells whether a day is a working day.
func IsWorking(l []api.Holiday, day int) (bool, api.Errno) {
	if e := firstError(CheckHolidays(l), checkDays(day)); e != api.OK {
		return false, e
	}
	next, e := addWorking(l, day, 0)
	return e == api.OK && next == day, api.OK
}

// AddWorking returns the n-th working day behind a day, or before it.
func AddWorking(l []api.Holiday, day, n int) (int, api.Errno) {
	if e := firstError(CheckHolidays(l), checkDays(day)); e != api.OK {
		return 0, e
	}
	if !isFromTo(n, -mostWorking, mostWorking) {
		return 0, api.ErrRange
	}
	return addWorking(l, day, n)
}

func addWorking(l []api.Holiday, day, n int) (int, api.Errno) {
	from, step, left := day, 1, 1
	switch {
	case n > 0:
		from, left = day+1, n
	case n < 0:
		from, step, left = day-1, -1, -n
	}
	for working := range workingDays(l, from, step) {
		left--
		if left == 0 {
			return working, api.OK
		}
	}
	return 0, api.ErrRange
}

// WorkingBetween returns how many working days there are from a day up to another
// one, which does not count.
func WorkingBetween(l []api.Holiday, from, to int) (int, api.Errno) {
	if e := firstError(CheckHolidays(l), checkDays(from, to), errorIf(to < from, api.ErrOrder)); e != api.OK {
		return 0, e
	}
	count := 0
	for working := range workingDays(l, from, 1) {
		if working >= to {
			break
		}
		count++
	}
	return count, api.OK
}

// CheckPeriod tells whether a period is one.
func CheckPeriod(p api.Period) api.Errno {
	most := periodDays
	if p.Working {
		most = periodWorking
	}
	return errorIf(!isFromTo(p.Months, 0, periodMonths) || !isFromTo(p.Days, 0, most), api.ErrRange)
}

// Deadline returns the deadline of a period that begins on a day.
func Deadline(l []api.Holiday, day int, p api.Period) (int, api.Errno) {
	if e := firstError(CheckHolidays(l), checkDays(day), CheckPeriod(p)); e != api.OK {
		return 0, e
	}
	later := monthsLater(day, p.Months)
	if !isDay(later) {
		return 0, api.ErrRange
	}
	if p.Working {
		return addWorking(l, later, p.Days)
	}
	// A day behind the last one has no working day, so it is refused there.
	return addWorking(l, later+p.Days, 0)
}
