package rule_test

import (
	"fmt"
	"math"
	"math/rand"
	"slices"
	"strings"
	"testing"

	"mortsafe/api"
	"mortsafe/rule"
)

// P2.3: known Easter Sundays, with the chapter's example 3.
func TestEaster(t *testing.T) {
	for _, d := range []api.Date{
		date(1800, 4, 13), date(1818, 3, 22), date(1886, 4, 25), date(1900, 4, 15), date(1943, 4, 25),
		date(1954, 4, 18), date(1981, 4, 19), date(2000, 4, 23), date(2024, 3, 31), date(2026, 4, 5), date(2285, 3, 22),
	} {
		if day, e := rule.Easter(d.Year); day != dayOf(d.Year, d.Month, d.Day) || e != api.OK {
			t.Error(d, day, e)
		}
	}
	if day, _ := rule.Easter(1800); day != 102 {
		t.Error(day)
	}
	for _, year := range []int{1799, 2347, math.MinInt, math.MaxInt} {
		if day, e := rule.Easter(year); day != 0 || e != api.ErrRange {
			t.Error(year, day, e)
		}
	}
}

// easter is the oracle: the full moon by golden number and epact, as Knuth has it.
func easter(year int) int {
	golden, century := year%19+1, year/100+1
	lost, moon := 3*century/4-12, (8*century+5)/25-5
	sunday := 5*year/4 - lost - 10
	epact := (11*golden + 20 + moon - lost) % 30
	if epact == 25 && golden > 11 || epact == 24 {
		epact++
	}
	n := 44 - epact
	if n < 21 {
		n += 30
	}
	return dayOf(year, 3, n+7-(sunday+n)%7)
}

// P2.3: Easter of all full years, against another computation.
func TestEasterOfAllYears(t *testing.T) {
	for year := 1800; year <= 2346; year++ {
		if day, e := rule.Easter(year); day != easter(year) || e != api.OK {
			t.Fatal(year, day, e)
		}
	}
}

// P2.3: lists that are no holidays; of several errors the first one.
func TestCheckHolidays(t *testing.T) {
	a, wrong := onDate("a", 1, 1), onDate("", 13, 1)
	for _, c := range []struct {
		what string
		l    []api.Holiday
		want api.Errno
	}{
		{"none", nil, api.OK},
		{"an empty list", []api.Holiday{}, api.OK},
		{"one of each kind", []api.Holiday{a, byEaster("b", 1), onWeekday("c", 1, 1, 1)}, api.OK},
		{"most of them", many(40), api.OK},
		{"too many", many(41), api.ErrLarge},
		{"too many wrong ones", slices.Repeat([]api.Holiday{wrong}, 41), api.ErrLarge},
		{"no name", []api.Holiday{wrong}, api.ErrName},
		{"no name, twice", []api.Holiday{wrong, wrong}, api.ErrName},
		{"a long name", []api.Holiday{onDate("abcdefghijkl", 1, 1), onDate("abcdefghijklm", 1, 1)}, api.ErrName},
		{"names of 12", []api.Holiday{onDate("aZ0-9bcdefgh", 1, 1), onDate("zA0-9bcdefgh", 1, 1)}, api.OK},
		{"a name that begins with a digit", []api.Holiday{onDate("1a", 1, 1)}, api.ErrName},
		{"a name with a blank", []api.Holiday{onDate("a b", 1, 1)}, api.ErrName},
		{"a name twice", []api.Holiday{a, byEaster("b", 0), byEaster("a", 0)}, api.ErrExists},
		{"a name twice, of no kind", []api.Holiday{a, {Name: "a", Kind: 3}}, api.ErrExists},
		{"a wrong one before a name twice", []api.Holiday{a, onDate("b", 0, 1), a}, api.ErrDate},
		{"a name twice before a wrong one", []api.Holiday{a, a, onDate("b", 0, 1)}, api.ErrExists},
		{"kind -1", []api.Holiday{{Name: "a", Kind: -1, Month: 1, Day: 1}}, api.ErrRange},
		{"kind 3", []api.Holiday{{Name: "a", Kind: 3, Month: 1, Day: 1}}, api.ErrRange},
		{"the least kind", []api.Holiday{{Name: "a", Kind: math.MinInt}}, api.ErrRange},
		{"the greatest kind", []api.Holiday{{Name: "a", Kind: math.MaxInt, Weekday: 9}}, api.ErrRange},
	} {
		if e := rule.CheckHolidays(c.l); e != c.want {
			t.Error(c.what, e)
		}
	}
}

func many(n int) []api.Holiday {
	var l []api.Holiday
	for i := range n {
		l = append(l, onDate(fmt.Sprint("h", i), i%12+1, i%28+1))
	}
	return l
}

// P2.3: the numbers of each kind of holidays.
func TestKindsOfHolidays(t *testing.T) {
	for _, c := range []struct {
		kind, month, day, weekday int
		want                      api.Errno
	}{
		{0, 2, 29, 0, api.OK},
		{0, 12, 31, 0, api.OK},
		{0, 4, 30, 0, api.OK},
		{0, 2, 30, 0, api.ErrDate},
		{0, 4, 31, 0, api.ErrDate},
		{0, 1, 32, 0, api.ErrDate},
		{0, 1, 0, 0, api.ErrDate},
		{0, 0, 1, 0, api.ErrDate},
		{0, 13, 1, 0, api.ErrDate},
		{0, 13, 1, 1, api.ErrDate},
		{0, math.MinInt, 1, 0, api.ErrDate},
		{0, math.MaxInt, 1, 0, api.ErrDate},
		{0, 1, math.MinInt, 0, api.ErrDate},
		{0, 1, math.MaxInt, 0, api.ErrDate},
		{0, 1, 1, 1, api.ErrForm},
		{0, 1, 1, -1, api.ErrForm},
		{1, 0, -80, 0, api.OK},
		{1, 0, 240, 0, api.OK},
		{1, 0, -81, 0, api.ErrRange},
		{1, 0, 241, 0, api.ErrRange},
		{1, 1, 241, 0, api.ErrRange},
		{1, 0, math.MinInt, 1, api.ErrRange},
		{1, 0, math.MaxInt, 0, api.ErrRange},
		{1, 1, 0, 0, api.ErrForm},
		{1, -1, 0, 0, api.ErrForm},
		{1, 0, 0, 1, api.ErrForm},
		{1, 0, 0, -1, api.ErrForm},
		{2, 1, 1, 0, api.OK},
		{2, 12, 4, 6, api.OK},
		{2, 12, -1, 6, api.OK},
		{2, 0, 1, 0, api.ErrDate},
		{2, 13, 1, 0, api.ErrDate},
		{2, 13, 0, 7, api.ErrDate},
		{2, math.MinInt, 1, 0, api.ErrDate},
		{2, 1, 0, 0, api.ErrRange},
		{2, 1, 5, 0, api.ErrRange},
		{2, 1, -2, 0, api.ErrRange},
		{2, 1, math.MinInt, 0, api.ErrRange},
		{2, 1, math.MaxInt, 0, api.ErrRange},
		{2, 1, 1, -1, api.ErrRange},
		{2, 1, 1, 7, api.ErrRange},
		{2, 1, -1, 7, api.ErrRange},
		{2, 1, 1, math.MaxInt, api.ErrRange},
	} {
		h := api.Holiday{Name: "a", Kind: c.kind, Month: c.month, Day: c.day, Weekday: c.weekday}
		if e := rule.CheckHolidays([]api.Holiday{h}); e != c.want {
			t.Error(c, e)
		}
	}
}

// P2.3: HolidaysOf, with the chapter's example 5: ascending, each day once, also on
// Sundays, and 29 February in leap years alone.
func TestHolidaysOf(t *testing.T) {
	leap := onDate("leap", 2, 29)
	for _, c := range []struct {
		what string
		l    []api.Holiday
		year int
		want []int
	}{
		{"none", nil, 1800, nil},
		{"the example", []api.Holiday{onWeekday("may", 5, -1, 0), onDate("new", 1, 1)}, 1800, []int{0, 145}},
		{"around Easter", []api.Holiday{byEaster("m", 1), byEaster("f", -2), byEaster("s", 0)}, 1800, []int{100, 102, 103}},
		{"on one day", []api.Holiday{onDate("a", 4, 13), byEaster("b", 0), onWeekday("c", 4, 2, 6)}, 1800, []int{102}},
		{"no leap year", []api.Holiday{leap, onDate("a", 3, 1)}, 1800, []int{59}},
		{"a leap year", []api.Holiday{leap, onDate("a", 3, 1)}, 1804, []int{1519, 1520}},
		{"no leap year alone", []api.Holiday{leap}, 1900, nil},
		{"a leap year of 400", []api.Holiday{leap}, 2000, []int{dayOf(2000, 2, 29)}},
		{"far before Easter", []api.Holiday{byEaster("a", -80)}, 1818, []int{dayOf(1818, 1, 1)}},
		{"far behind Easter", []api.Holiday{byEaster("a", 240)}, 1943, []int{dayOf(1943, 12, 21)}},
		{"first days", []api.Holiday{onWeekday("a", 1, 1, 2), onWeekday("b", 1, 1, 1)}, 1800, []int{0, 6}},
		{"fourth days", []api.Holiday{onWeekday("a", 1, 4, 2), onWeekday("b", 1, 4, 1)}, 1800, []int{21, 27}},
		{"last days", []api.Holiday{onWeekday("a", 1, -1, 4), onWeekday("b", 1, -1, 5)}, 1800, []int{24, 30}},
		{"the last day", []api.Holiday{onDate("a", 12, 31)}, 2346, []int{199786}},
	} {
		if days, e := rule.HolidaysOf(c.l, c.year); !slices.Equal(days, c.want) || e != api.OK {
			t.Error(c.what, days, e)
		}
	}
}

// P2.3: the errors of HolidaysOf: of the holidays, then of the year.
func TestHolidaysOfErrors(t *testing.T) {
	wrong := []api.Holiday{onDate("a", 2, 30)}
	for _, c := range []struct {
		l    []api.Holiday
		year int
		want api.Errno
	}{
		{wrong, 1800, api.ErrDate},
		{wrong, 1799, api.ErrDate},
		{nil, 1799, api.ErrRange},
		{nil, 2347, api.ErrRange},
		{nil, math.MinInt, api.ErrRange},
		{nil, math.MaxInt, api.ErrRange},
	} {
		if days, e := rule.HolidaysOf(c.l, c.year); len(days) != 0 || e != c.want {
			t.Error(c, days, e)
		}
	}
}

// isHoliday is the oracle: it looks at one day, and computes no others.
func isHoliday(l []api.Holiday, day int) bool {
	d := dateOf(day)
	last := monthDays(d.Year, d.Month)
	for _, h := range l {
		same := h.Month == d.Month && h.Weekday == weekday(day)
		switch {
		case h.Kind == 0 && h.Month == d.Month && h.Day == d.Day,
			h.Kind == 1 && easter(d.Year)+h.Day == day,
			h.Kind == 2 && same && h.Day == (d.Day+6)/7,
			h.Kind == 2 && same && h.Day == -1 && d.Day+7 > last:
			return true
		}
	}
	return false
}

func isWorking(l []api.Holiday, day int) bool { return weekday(day) < 5 && !isHoliday(l, day) }

func randomHolidays(r *rand.Rand) []api.Holiday {
	var l []api.Holiday
	for i := range r.Intn(30) {
		name, month := fmt.Sprint("h", i), 1+r.Intn(12)
		switch r.Intn(4) {
		case 0:
			l = append(l, onDate(name, month, 1+r.Intn(monthDays(2000, month))))
		case 1:
			l = append(l, byEaster(name, r.Intn(321)-80))
		case 2:
			l = append(l, onWeekday(name, month, 1+r.Intn(4), r.Intn(7)))
		case 3:
			l = append(l, onWeekday(name, month, -1, r.Intn(7)))
		}
	}
	return l
}

// P2.3: HolidaysOf against the oracle.
func TestHolidaysOfRandom(t *testing.T) {
	r := rand.New(rand.NewSource(4))
	for range 300 {
		l, year := randomHolidays(r), 1800+r.Intn(547)
		var want []int
		for day := dayOf(year, 1, 1); day < dayOf(year+1, 1, 1); day++ {
			if isHoliday(l, day) {
				want = append(want, day)
			}
		}
		if days, e := rule.HolidaysOf(l, year); !slices.Equal(days, want) || e != api.OK {
			t.Fatal(l, year, days, e, want)
		}
	}
}

// P2.4: working days, with the chapter's examples 4 and 5.
func TestIsWorking(t *testing.T) {
	l := []api.Holiday{onDate("new", 1, 1), onWeekday("may", 5, -1, 0), onDate("late", 8, 1)}
	for _, c := range []struct {
		l    []api.Holiday
		day  int
		want bool
	}{
		{nil, 0, true}, {nil, 1, true}, {nil, 2, true}, {nil, 3, false}, {nil, 4, false}, {nil, 5, true},
		{l, 0, false}, {l, 1, true}, {l, 144, false}, {l, 145, false}, {l, 146, true},
		{nil, 199999, true}, {nil, api.MaxDay, false},
		{l, 199998, true}, {l, 199999, false},
	} {
		if is, e := rule.IsWorking(c.l, c.day); is != c.want || e != api.OK {
			t.Error(c, is, e)
		}
	}
}

// P2.4: AddWorking, with the chapter's example 4, and over the ends.
func TestAddWorking(t *testing.T) {
	l := []api.Holiday{onDate("new", 1, 1), onDate("three", 1, 3), byEaster("e", -2)}
	for _, c := range []struct {
		l            []api.Holiday
		day, n, want int
		err          api.Errno
	}{
		{nil, 0, 3, 5, api.OK},
		{nil, 3, 0, 5, api.OK},
		{nil, 0, 0, 0, api.OK},
		{nil, 3, 1, 5, api.OK},
		{nil, 4, 1, 5, api.OK},
		{nil, 2, 1, 5, api.OK},
		{nil, 5, -1, 2, api.OK},
		{nil, 4, -1, 2, api.OK},
		{nil, 3, -1, 2, api.OK},
		{nil, 7, -5, 0, api.OK},
		{l, 0, 0, 1, api.OK},
		{l, 0, 1, 1, api.OK},
		{l, 1, 1, 5, api.OK},
		{l, 5, -1, 1, api.OK},
		{l, 99, 1, 103, api.OK},
		{nil, 0, -1, 0, api.ErrRange},
		{l, 1, -1, 0, api.ErrRange},
		{nil, 199999, 0, 199999, api.OK},
		{nil, 199998, 1, 199999, api.OK},
		{nil, 199999, 1, 0, api.ErrRange},
		{nil, api.MaxDay, 0, 0, api.ErrRange},
		{nil, api.MaxDay, 1, 0, api.ErrRange},
		{nil, api.MaxDay, -1, 199999, api.OK},
		{nil, 0, 2000, 2800, api.OK},
		{nil, 2800, -2000, 0, api.OK},
		{nil, 0, 2001, 0, api.ErrRange},
		{nil, 100000, -2001, 0, api.ErrRange},
		{nil, 100000, math.MinInt, 0, api.ErrRange},
		{nil, 100000, math.MaxInt, 0, api.ErrRange},
	} {
		if day, e := rule.AddWorking(c.l, c.day, c.n); day != c.want || e != c.err {
			t.Error(c, day, e)
		}
	}
}

// P2.4: WorkingBetween, with the chapter's example 4: its last day does not count.
func TestWorkingBetween(t *testing.T) {
	l := []api.Holiday{onDate("new", 1, 1), onDate("four", 1, 4), onDate("late", 8, 1)}
	for _, c := range []struct {
		l              []api.Holiday
		from, to, want int
	}{
		{nil, 0, 7, 5},
		{nil, 0, 0, 0},
		{nil, 0, 1, 1},
		{nil, 3, 5, 0},
		{nil, 3, 6, 1},
		{l, 0, 7, 4},
		{l, 0, 1, 0},
		{nil, 0, api.MaxDay, 142858},
		{nil, 199998, api.MaxDay, 2},
		{l, 199998, api.MaxDay, 1},
		{nil, api.MaxDay, api.MaxDay, 0},
	} {
		if n, e := rule.WorkingBetween(c.l, c.from, c.to); n != c.want || e != api.OK {
			t.Error(c, n, e)
		}
	}
}

// P2.4: first the error of the holidays, then those of the days, then the others.
func TestWorkingErrors(t *testing.T) {
	wrong := []api.Holiday{onDate("a", 2, 30)}
	for _, day := range noDays {
		if is, e := rule.IsWorking(nil, day); is || e != api.ErrRange {
			t.Error(day, is, e)
		}
		if is, e := rule.IsWorking(wrong, day); is || e != api.ErrDate {
			t.Error(day, is, e)
		}
		if n, e := rule.AddWorking(nil, day, 1); n != 0 || e != api.ErrRange {
			t.Error(day, n, e)
		}
		if n, e := rule.AddWorking(wrong, day, 9999); n != 0 || e != api.ErrDate {
			t.Error(day, n, e)
		}
		if n, e := rule.WorkingBetween(nil, day, 1); n != 0 || e != api.ErrRange {
			t.Error(day, n, e)
		}
		if n, e := rule.WorkingBetween(nil, 1, day); n != 0 || e != api.ErrRange {
			t.Error(day, n, e)
		}
		if n, e := rule.WorkingBetween(wrong, day, 1); n != 0 || e != api.ErrDate {
			t.Error(day, n, e)
		}
	}
	if n, e := rule.WorkingBetween(nil, 1, 0); n != 0 || e != api.ErrOrder {
		t.Error(n, e)
	}
	if n, e := rule.WorkingBetween(wrong, 1, 0); n != 0 || e != api.ErrDate {
		t.Error(n, e)
	}
}

// P2.4: working days against the oracle, also in the last year.
func TestWorkingRandom(t *testing.T) {
	r := rand.New(rand.NewSource(5))
	for i := range 200 {
		l, from := randomHolidays(r), r.Intn(api.MaxDay-500)
		if i%4 == 0 {
			from = api.MaxDay - 500
		}
		var working []int
		for day := from; day <= from+500; day++ {
			is, e := rule.IsWorking(l, day)
			if want := isWorking(l, day); is != want || e != api.OK {
				t.Fatal(l, day, is, e)
			}
			if is {
				working = append(working, day)
			}
		}
		a, b := r.Intn(len(working)), r.Intn(len(working))
		if day, e := rule.AddWorking(l, working[a], b-a); day != working[b] || e != api.OK {
			t.Fatal(l, working[a], b-a, day, e)
		}
		a, b = min(a, b), max(a, b)
		if n, e := rule.WorkingBetween(l, working[a], working[b]); n != b-a || e != api.OK {
			t.Fatal(l, working[a], working[b], n, e)
		}
	}
}

// P2.5: periods.
func TestCheckPeriod(t *testing.T) {
	for _, c := range []struct {
		p    api.Period
		want api.Errno
	}{
		{api.Period{}, api.OK},
		{api.Period{Working: true}, api.OK},
		{api.Period{Months: 1200, Days: 36500}, api.OK},
		{api.Period{Months: 1200, Days: 2000, Working: true}, api.OK},
		{api.Period{Months: 1201}, api.ErrRange},
		{api.Period{Months: -1}, api.ErrRange},
		{api.Period{Days: -1}, api.ErrRange},
		{api.Period{Days: -1, Working: true}, api.ErrRange},
		{api.Period{Days: 36501}, api.ErrRange},
		{api.Period{Days: 2001, Working: true}, api.ErrRange},
		{api.Period{Months: math.MinInt}, api.ErrRange},
		{api.Period{Months: math.MaxInt}, api.ErrRange},
		{api.Period{Days: math.MinInt}, api.ErrRange},
		{api.Period{Days: math.MaxInt, Working: true}, api.ErrRange},
	} {
		if e := rule.CheckPeriod(c.p); e != c.want {
			t.Error(c, e)
		}
	}
}

// P2.5: Deadline, with the chapter's example 6: months first, then days, and no
// deadline on a day that is no working day.
func TestDeadline(t *testing.T) {
	l := []api.Holiday{onDate("a", 3, 3), onDate("b", 2, 28)}
	for _, c := range []struct {
		what string
		l    []api.Holiday
		day  int
		p    api.Period
		want int
		err  api.Errno
	}{
		{"the example", nil, 30, api.Period{Months: 1, Days: 1}, 61, api.OK},
		{"working days", nil, 30, api.Period{Months: 1, Days: 1, Working: true}, 61, api.OK},
		{"the next day is a holiday", l, 30, api.Period{Months: 1, Days: 1}, 62, api.OK},
		{"working days and a holiday", l, 30, api.Period{Months: 1, Days: 1, Working: true}, 62, api.OK},
		{"no days, a working day", nil, 30, api.Period{Months: 1}, 58, api.OK},
		{"no days, a holiday", l, 30, api.Period{Months: 1}, 62, api.OK},
		{"no working days, a working day", nil, 30, api.Period{Months: 1, Working: true}, 58, api.OK},
		{"no working days, a holiday", l, 30, api.Period{Months: 1, Working: true}, 62, api.OK},
		{"nothing", nil, 0, api.Period{}, 0, api.OK},
		{"nothing on a Saturday", nil, 3, api.Period{}, 5, api.OK},
		{"days over a weekend", nil, 0, api.Period{Days: 5}, 5, api.OK},
		{"working days over a weekend", nil, 0, api.Period{Days: 5, Working: true}, 7, api.OK},
		{"working days behind a weekend", nil, 3, api.Period{Days: 1, Working: true}, 5, api.OK},
		{"the last working day", nil, 199999, api.Period{}, 199999, api.OK},
		{"no working day behind", nil, api.MaxDay, api.Period{}, 0, api.ErrRange},
		{"no working day behind, of working days", nil, api.MaxDay, api.Period{Working: true}, 0, api.ErrRange},
		{"months too late", nil, dayOf(2347, 7, 3), api.Period{Months: 1}, 0, api.ErrRange},
		{"months too late, of working days", nil, dayOf(2347, 7, 3), api.Period{Months: 1, Working: true}, 0, api.ErrRange},
		{"far too late", nil, api.MaxDay, api.Period{Months: 1200, Days: 36500}, 0, api.ErrRange},
		{"days too late", nil, 199999, api.Period{Days: 1}, 0, api.ErrRange},
		{"days far too late", nil, 199999, api.Period{Days: 36500}, 0, api.ErrRange},
		{"working days too late", nil, 199999, api.Period{Days: 1, Working: true}, 0, api.ErrRange},
	} {
		if day, e := rule.Deadline(c.l, c.day, c.p); day != c.want || e != c.err {
			t.Error(c.what, day, e)
		}
	}
}

// P2.5: the errors of the holidays, the day and the period, in this order.
func TestDeadlineErrors(t *testing.T) {
	long := api.Period{Months: 1201}
	wrong := []api.Holiday{onDate("a", 2, 30)}
	if day, e := rule.Deadline(wrong, -1, long); day != 0 || e != api.ErrDate {
		t.Error(day, e)
	}
	for _, c := range noDays {
		if day, e := rule.Deadline(nil, c, api.Period{}); day != 0 || e != api.ErrRange {
			t.Error(c, day, e)
		}
	}
	for _, p := range []api.Period{long, {Days: -1}, {Days: 36501}, {Days: 2001, Working: true}, {Months: math.MinInt}, {Days: math.MaxInt}} {
		if day, e := rule.Deadline(nil, 5, p); day != 0 || e != api.ErrRange {
			t.Error(p, day, e)
		}
	}
}

func randomPeriod(r *rand.Rand) api.Period {
	return api.Period{Months: r.Intn(30), Days: r.Intn(50), Working: r.Intn(2) == 0}
}

// P2.5: Deadline against the oracles, step by step.
func TestDeadlineRandom(t *testing.T) {
	r := rand.New(rand.NewSource(6))
	for range 2000 {
		l, day, p := randomHolidays(r), r.Intn(api.MaxDay-2000), randomPeriod(r)
		want, _ := monthsLater(day, p.Months)
		left := p.Days
		if !p.Working {
			want, left = want+p.Days, 0
		}
		for ; left > 0; left-- {
			for want++; !isWorking(l, want); want++ {
			}
		}
		for ; !isWorking(l, want); want++ {
		}
		if got, e := rule.Deadline(l, day, p); got != want || e != api.OK {
			t.Fatal(l, day, p, got, e, want)
		}
	}
}

// P2.10: AddWorking in two steps is AddWorking at once, and WorkingBetween counts them.
func TestWorkingInSteps(t *testing.T) {
	r := rand.New(rand.NewSource(7))
	for range 300 {
		l, day, n, m := randomHolidays(r), r.Intn(api.MaxDay-1000), 1+r.Intn(100), 1+r.Intn(100)
		half, _ := rule.AddWorking(l, day, n)
		steps, e := rule.AddWorking(l, half, m)
		if whole, e2 := rule.AddWorking(l, day, n+m); steps != whole || e != api.OK || e2 != api.OK {
			t.Fatal(l, day, n, m, steps, e, whole, e2)
		}
		if count, e := rule.WorkingBetween(l, half, steps); count != m || e != api.OK {
			t.Fatal(l, half, steps, count, e)
		}
	}
}

// P2.10: a later day never has an earlier deadline, and a deadline is a working day.
func TestLaterDeadlines(t *testing.T) {
	r := rand.New(rand.NewSource(8))
	for range 60 {
		l, first, p := randomHolidays(r), r.Intn(api.MaxDay-3000), randomPeriod(r)
		before := 0
		for day := first; day < first+100; day++ {
			deadline, e := rule.Deadline(l, day, p)
			is, _ := rule.IsWorking(l, deadline)
			if deadline < before || e != api.OK || !is {
				t.Fatal(l, day, p, deadline, before, e, is)
			}
			before = deadline
		}
	}
}

// R2 (P1): long names and lists end without a panic.
func TestLargeHolidays(t *testing.T) {
	if e := rule.CheckHolidays([]api.Holiday{onDate(strings.Repeat("a", 1<<20), 1, 1)}); e != api.ErrName {
		t.Error(e)
	}
	if e := rule.CheckHolidays(make([]api.Holiday, 1<<16)); e != api.ErrLarge {
		t.Error(e)
	}
}
