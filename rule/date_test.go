package rule_test

import (
	"math"
	"math/rand"
	"testing"

	"mortsafe/api"
	"mortsafe/rule"
)

// P2.1: dates and their days, with the chapter's example 1.
func TestDates(t *testing.T) {
	for _, c := range []struct {
		d            api.Date
		day, weekday int
	}{
		{date(1800, 1, 1), 0, 2},
		{date(1800, 1, 31), 30, 4},
		{date(1800, 2, 28), 58, 4},
		{date(1800, 3, 1), 59, 5},
		{date(1800, 4, 11), 100, 4},
		{date(1800, 12, 31), 364, 2},
		{date(1801, 1, 1), 365, 3},
		{date(1804, 2, 29), 1519, 2},
		{date(1900, 2, 28), 36582, 2},
		{date(1900, 3, 1), 36583, 3},
		{date(2000, 2, 29), 73107, 1},
		{date(2200, 1, 1), 146097, 2},
		{date(2346, 12, 31), 199786, 1},
		{date(2347, 8, 2), api.MaxDay, 5},
	} {
		if day, e := rule.DayOf(c.d); day != c.day || e != api.OK {
			t.Error(c, day, e)
		}
		if d, e := rule.DateOf(c.day); d != c.d || e != api.OK {
			t.Error(c, d, e)
		}
		if w, e := rule.Weekday(c.day); w != c.weekday || e != api.OK {
			t.Error(c, w, e)
		}
	}
}

// P2.1: dates that are none, or that are no days.
func TestDayOfErrors(t *testing.T) {
	for _, c := range []struct {
		d    api.Date
		want api.Errno
	}{
		{date(1799, 12, 31), api.ErrRange},
		{date(2348, 1, 1), api.ErrRange},
		{date(1799, 13, 1), api.ErrRange},
		{date(2348, 1, 32), api.ErrRange},
		{date(math.MinInt, 1, 1), api.ErrRange},
		{date(math.MaxInt, 1, 1), api.ErrRange},
		{date(1800, 0, 1), api.ErrDate},
		{date(1800, 13, 1), api.ErrDate},
		{date(1800, math.MinInt, 1), api.ErrDate},
		{date(1800, math.MaxInt, 1), api.ErrDate},
		{date(1800, 1, 0), api.ErrDate},
		{date(1800, 1, 32), api.ErrDate},
		{date(1800, 1, math.MinInt), api.ErrDate},
		{date(1800, 1, math.MaxInt), api.ErrDate},
		{date(1800, 4, 31), api.ErrDate},
		{date(1800, 2, 29), api.ErrDate},
		{date(1804, 2, 30), api.ErrDate},
		{date(2347, 13, 1), api.ErrDate},
		{date(2347, 9, 31), api.ErrDate},
		{date(2347, 8, 3), api.ErrRange},
		{date(2347, 12, 31), api.ErrRange},
	} {
		if day, e := rule.DayOf(c.d); day != 0 || e != c.want {
			t.Error(c, day, e)
		}
	}
}

// P2.1: numbers that are no days.
func TestNoDays(t *testing.T) {
	for _, day := range noDays {
		if d, e := rule.DateOf(day); d != (api.Date{}) || e != api.ErrRange {
			t.Error(day, d, e)
		}
		if w, e := rule.Weekday(day); w != 0 || e != api.ErrRange {
			t.Error(day, w, e)
		}
	}
}

// P2.1, P2.9: all days, against the library; DayOf and DateOf undo each other.
func TestEveryDay(t *testing.T) {
	for day := range api.MaxDay + 1 {
		d, e := rule.DateOf(day)
		if d != dateOf(day) || e != api.OK {
			t.Fatal(day, d, e)
		}
		if back, e := rule.DayOf(d); back != day || e != api.OK {
			t.Fatal(day, back, e)
		}
		if w, e := rule.Weekday(day); w != weekday(day) || e != api.OK {
			t.Fatal(day, w, e)
		}
	}
}

// P2.1: MonthDays of all months, against the library, and its errors.
func TestMonthDays(t *testing.T) {
	for year := 1800; year <= 2347; year++ {
		for month := 1; month <= 12; month++ {
			if n, e := rule.MonthDays(year, month); n != monthDays(year, month) || e != api.OK {
				t.Fatal(year, month, n, e)
			}
		}
	}
	for _, c := range []struct {
		year, month int
		want        api.Errno
	}{
		{1799, 1, api.ErrRange},
		{2348, 1, api.ErrRange},
		{1799, 0, api.ErrRange},
		{math.MinInt, 1, api.ErrRange},
		{math.MaxInt, 1, api.ErrRange},
		{1800, 0, api.ErrDate},
		{1800, 13, api.ErrDate},
		{2347, -1, api.ErrDate},
		{2347, math.MinInt, api.ErrDate},
		{2347, math.MaxInt, api.ErrDate},
	} {
		if n, e := rule.MonthDays(c.year, c.month); n != 0 || e != c.want {
			t.Error(c, n, e)
		}
	}
}

// P2.2: AddMonths, with the chapter's example 2 and the document's example 6.
func TestAddMonths(t *testing.T) {
	for _, c := range []struct {
		from   api.Date
		months int
		want   api.Date
	}{
		{date(1800, 1, 31), 1, date(1800, 2, 28)},
		{date(1800, 1, 31), 2, date(1800, 3, 31)},
		{date(1800, 1, 31), 3, date(1800, 4, 30)},
		{date(1804, 1, 31), 1, date(1804, 2, 29)},
		{date(1804, 2, 29), 12, date(1805, 2, 28)},
		{date(1804, 2, 29), 48, date(1808, 2, 29)},
		{date(1800, 4, 11), 12, date(1801, 4, 11)},
		{date(1800, 12, 1), 1, date(1801, 1, 1)},
		{date(1801, 1, 1), -1, date(1800, 12, 1)},
		{date(1800, 3, 31), -1, date(1800, 2, 28)},
		{date(1800, 1, 1), 0, date(1800, 1, 1)},
		{date(1801, 1, 1), -12, date(1800, 1, 1)},
		{date(2347, 7, 2), 1, date(2347, 8, 2)},
		{date(2347, 8, 2), -6571, date(1800, 1, 2)},
		{date(1800, 1, 2), 6571, date(2347, 8, 2)},
	} {
		got, e := rule.AddMonths(dayOf(c.from.Year, c.from.Month, c.from.Day), c.months)
		if want := dayOf(c.want.Year, c.want.Month, c.want.Day); got != want || e != api.OK {
			t.Error(c, got, want, e)
		}
	}
}

// P2.2: months out of range, and days that are none.
func TestAddMonthsErrors(t *testing.T) {
	for _, day := range noDays {
		if n, e := rule.AddMonths(day, 0); n != 0 || e != api.ErrRange {
			t.Error(day, n, e)
		}
	}
	for _, c := range []struct{ day, months int }{
		{0, 12001}, {0, -12001}, {0, 12000}, {0, -12000}, {api.MaxDay, 12000}, {api.MaxDay, -12000},
		{0, math.MinInt}, {0, math.MaxInt}, {0, -1}, {30, -1}, {api.MaxDay, 1},
		{dayOf(2347, 7, 3), 1}, {dayOf(2347, 7, 31), 1}, {dayOf(1801, 1, 1), -13},
	} {
		if n, e := rule.AddMonths(c.day, c.months); n != 0 || e != api.ErrRange {
			t.Error(c, n, e)
		}
	}
}

// P2.2: AddMonths against the library.
func TestAddMonthsRandom(t *testing.T) {
	r := rand.New(rand.NewSource(1))
	for range 20000 {
		day, months := r.Intn(api.MaxDay+1), r.Intn(24001)-12000
		want, is := monthsLater(day, months)
		wanted := api.OK
		if !is {
			want, wanted = 0, api.ErrRange
		}
		if got, e := rule.AddMonths(day, months); got != want || e != wanted {
			t.Fatal(day, months, got, e, want)
		}
	}
}

// P2.2: Age, with the chapter's example 2.
func TestAge(t *testing.T) {
	for _, c := range []struct{ from, to, want api.Date }{
		{date(1800, 1, 31), date(1800, 3, 1), date(0, 1, 1)},
		{date(1800, 1, 31), date(1800, 2, 27), date(0, 0, 27)},
		{date(1800, 1, 31), date(1800, 2, 28), date(0, 1, 0)},
		{date(1800, 1, 31), date(1800, 3, 30), date(0, 1, 30)},
		{date(1800, 1, 31), date(1800, 3, 31), date(0, 2, 0)},
		{date(1804, 2, 29), date(1805, 2, 28), date(1, 0, 0)},
		{date(1804, 2, 29), date(1805, 2, 27), date(0, 11, 29)},
		{date(1800, 1, 1), date(1800, 1, 1), date(0, 0, 0)},
		{date(1800, 12, 31), date(1801, 1, 1), date(0, 0, 1)},
		{date(1800, 1, 1), date(2347, 8, 2), date(547, 7, 1)},
		{date(2347, 7, 31), date(2347, 8, 2), date(0, 0, 2)},
		{date(2347, 8, 2), date(2347, 8, 2), date(0, 0, 0)},
	} {
		got, e := rule.Age(dayOf(c.from.Year, c.from.Month, c.from.Day), dayOf(c.to.Year, c.to.Month, c.to.Day))
		if got != c.want || e != api.OK {
			t.Error(c, got, e)
		}
	}
}

// P2.2: days that are none, also in the wrong order; then a wrong order.
func TestAgeErrors(t *testing.T) {
	for _, c := range []struct {
		from, to int
		want     api.Errno
	}{
		{-1, 5, api.ErrRange},
		{5, -1, api.ErrRange},
		{api.MaxDay + 1, 5, api.ErrRange},
		{5, api.MaxDay + 1, api.ErrRange},
		{math.MaxInt, math.MinInt, api.ErrRange},
		{1, 0, api.ErrOrder},
		{api.MaxDay, 0, api.ErrOrder},
	} {
		if d, e := rule.Age(c.from, c.to); d != (api.Date{}) || e != c.want {
			t.Error(c, d, e)
		}
	}
}

// P2.2: Age is the greatest number of months that is not too great, and the days behind it.
func TestAgeRandom(t *testing.T) {
	r := rand.New(rand.NewSource(2))
	for range 3000 {
		from := r.Intn(api.MaxDay + 1)
		to := min(api.MaxDay, from+r.Intn(1000))
		months := 0
		for {
			if later, is := monthsLater(from, months+1); !is || later > to {
				break
			}
			months++
		}
		begun, _ := monthsLater(from, months)
		want := date(months/12, months%12, to-begun)
		if got, e := rule.Age(from, to); got != want || e != api.OK {
			t.Fatal(from, to, got, e, want)
		}
	}
}

// P2.9: seven days later it is the same weekday.
func TestSevenDaysLater(t *testing.T) {
	for day := range api.MaxDay - 6 {
		a, _ := rule.Weekday(day)
		b, _ := rule.Weekday(day + 7)
		next, _ := rule.Weekday(day + 1)
		if a != b || next != (a+1)%7 {
			t.Fatal(day, a, next, b)
		}
	}
}

// P2.9: 4800 months later it is 146097 days later, if the day is one.
func TestFourHundredYears(t *testing.T) {
	for day := range api.MaxDay + 1 {
		later, e := rule.AddMonths(day, 4800)
		if is := day+146097 <= api.MaxDay; is && (later != day+146097 || e != api.OK) || !is && e != api.ErrRange {
			t.Fatal(day, later, e)
		}
	}
}

// P2.9: months added one after the other may end earlier than all at once, never later.
func TestMonthsInParts(t *testing.T) {
	r := rand.New(rand.NewSource(3))
	earlier := 0
	for range 20000 {
		day, a, b := r.Intn(api.MaxDay+1), r.Intn(100)-50, r.Intn(100)-50
		half, e1 := rule.AddMonths(day, a)
		parts, e2 := rule.AddMonths(half, b)
		whole, e3 := rule.AddMonths(day, a+b)
		if e1 != api.OK || e2 != api.OK || e3 != api.OK {
			continue
		}
		if parts > whole {
			t.Fatal(day, a, b, parts, whole)
		}
		if parts < whole {
			earlier++
		}
	}
	if earlier == 0 {
		t.Error("never earlier")
	}
}
