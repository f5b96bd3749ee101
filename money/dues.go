package money

import "mortsafe/api"

const (
	maxDues = 120
	maxStep = 1000 // days between two instalments
)

// Instalments returns an amount in parts of which the first ones are a cent greater, if need be.
func Instalments(cents, count int) ([]int, api.Errno) {
	if !isFromTo(cents, 0, api.MaxCents) || !isFromTo(count, 1, maxDues) {
		return nil, api.ErrRange
	}
	var l []int
	for i := range count {
		part := cents / count
		if i < cents%count {
			part++
		}
		l = append(l, part)
	}
	return l, api.OK
}

// Plan returns instalments as dues, from the first day on, with the second number of days
// between them.
func Plan(cents, count int, days [2]int) ([]api.Due, api.Errno) {
	parts, e := Instalments(cents, count)
	if e != api.OK {
		return nil, e
	}
	first, step := days[0], days[1]
	if !isDay(first) || !isFromTo(step, 1, maxStep) || !isDay(first+(count-1)*step) {
		return nil, api.ErrRange
	}
	var l []api.Due
	for i, part := range parts {
		l = append(l, api.Due{Day: first + i*step, Cents: part})
	}
	return l, api.OK
}

// CheckDues returns the error of dues, or of payments.
func CheckDues(l []api.Due) api.Errno {
	order := ascending()
	return checkEach(l, maxDues, func(d api.Due) api.Errno {
		return firstError(errorIf(!isDay(d.Day) || !isFromTo(d.Cents, 0, api.MaxCents), api.ErrRange), order(d.Day))
	})
}

// Open returns what is open on a day, and what is left in all.
func Open(d, paid []api.Due, day int) (int, int, api.Errno) {
	if e := firstError(CheckDues(d), CheckDues(paid), checkDay(day)); e != api.OK {
		return 0, 0, e
	}
	until := func(x api.Due) bool { return x.Day <= day }
	back := sumOf(beginning(paid, until))
	return max(0, sumOf(beginning(d, until))-back), max(0, sumOf(d)-back), api.OK
}

func sumOf(l []api.Due) int {
	sum := 0
	for _, d := range l {
		sum += d.Cents
	}
	return sum
}

// Cover returns for each of the dues the first day on which it is paid, with all before it, or -1.
func Cover(d, paid []api.Due) ([]int, api.Errno) {
	if e := firstError(CheckDues(d), CheckDues(paid)); e != api.OK {
		return nil, e
	}
	var l []int
	for i := range d {
		l = append(l, dayOf(paid, sumOf(d[:i+1])))
	}
	return l, api.OK
}

// dayOf returns the first day on which an amount is paid, or -1. Nothing is paid from the
// beginning, so on day 0.
func dayOf(paid []api.Due, cents int) int {
	left := func(l []api.Due) bool { return sumOf(l) < cents }
	if !left(nil) {
		return 0
	}
	for i, p := range paid {
		if !left(paid[:i+1]) {
			return p.Day
		}
	}
	return -1
}
