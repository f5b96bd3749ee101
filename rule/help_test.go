package rule_test

import (
	"math"
	"time"

	"mortsafe/api"
)

var noDays = []int{-1, api.MaxDay + 1, math.MinInt, math.MaxInt}

func date(year, month, day int) api.Date { return api.Date{Year: year, Month: month, Day: day} }

func moment(d api.Date) time.Time {
	return time.Date(d.Year, time.Month(d.Month), d.Day, 0, 0, 0, 0, time.UTC)
}

// dayOf and dateOf compute with the dates of the library, as an oracle.
func dayOf(year, month, day int) int {
	const seconds = 24 * 60 * 60
	return int((moment(date(year, month, day)).Unix() - moment(date(1800, 1, 1)).Unix()) / seconds)
}

func dateOf(day int) api.Date {
	t := moment(date(1800, 1, 1+day))
	return date(t.Year(), int(t.Month()), t.Day())
}

func weekday(day int) int { return (int(moment(dateOf(day)).Weekday()) + 6) % 7 }

func monthDays(year, month int) int { return moment(date(year, month+1, 0)).Day() }

// monthsLater is the oracle of months: whether there is such a day, too.
func monthsLater(day, months int) (int, bool) {
	d := dateOf(day)
	first := moment(date(d.Year, d.Month+months, 1))
	last := monthDays(first.Year(), int(first.Month()))
	later := dayOf(first.Year(), int(first.Month()), min(d.Day, last))
	return later, 0 <= later && later <= api.MaxDay
}

func onDate(name string, month, day int) api.Holiday {
	return api.Holiday{Name: name, Kind: 0, Month: month, Day: day}
}

func byEaster(name string, day int) api.Holiday {
	return api.Holiday{Name: name, Kind: 1, Day: day}
}

func onWeekday(name string, month, day, weekday int) api.Holiday {
	return api.Holiday{Name: name, Kind: 2, Month: month, Day: day, Weekday: weekday}
}

func sets(name string, value, from, entered int) api.Provision {
	return api.Provision{Name: name, Value: value, From: from, Entered: entered}
}

func repeals(name string, from, entered int) api.Provision {
	return api.Provision{Name: name, From: from, Entered: entered, Repeal: true}
}

// fees are the entries of the chapter's example 7.
func fees() []api.Provision {
	return []api.Provision{sets("fee", 100, 10, 5), sets("fee", 120, 20, 15), sets("fee", 110, 20, 25), repeals("fee", 30, 28)}
}
