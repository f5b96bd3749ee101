package money

import "mortsafe/api"

const (
	maxRate = 1000000
	whole   = 1000 // thousandths
)

// start is from when on a rate of a class holds.
type start struct {
	class string
	from  int
}

// CheckRates returns the error of a tariff.
func CheckRates(l []api.Rate) api.Errno {
	starts := map[start]bool{}
	return checkEach(l, api.MaxRates, func(r api.Rate) api.Errno {
		s := start{r.Class, r.From}
		e := firstError(
			checkName(r.Class),
			errorIf(!isDay(r.From) || !isFromTo(r.Cents, 0, maxRate), api.ErrRange),
			errorIf(starts[s], api.ErrExists),
		)
		starts[s] = true
		return e
	})
}

// tariff is rates by classes.
type tariff map[string][]api.Rate

func tariffOf(l []api.Rate) tariff {
	t := tariff{}
	for _, r := range l {
		t[r.Class] = append(t[r.Class], r)
	}
	return t
}

// on returns the rate of a class on a day, in cents.
func (t tariff) on(class string, day int) (int, api.Errno) {
	last := api.Rate{From: -1}
	for _, r := range t[class] {
		if last.From < r.From && r.From <= day {
			last = r
		}
	}
	return last.Cents, errorIf(last.From < 0, api.ErrMissing)
}

// RateOf returns the rate of a class on a day.
func RateOf(l []api.Rate, class string, day int) (int, api.Errno) {
	if e := firstError(CheckRates(l), checkName(class), checkDay(day)); e != api.OK {
		return 0, e
	}
	return tariffOf(l).on(class, day)
}

// Until returns the first day behind a day on which the rate of a class is another one.
func Until(l []api.Rate, class string, day int) (int, api.Errno) {
	cents, e := RateOf(l, class, day)
	if e != api.OK {
		return 0, e
	}
	next := api.MaxDay + 1
	for _, r := range tariffOf(l)[class] {
		if r.From > day && r.Cents != cents {
			next = min(next, r.From)
		}
	}
	if !isDay(next) {
		return 0, api.ErrNone
	}
	return next, api.OK
}

// CheckRemissions returns the error of remissions.
func CheckRemissions(l []api.Remission) api.Errno {
	return checkEach(l, api.MaxRates, func(r api.Remission) api.Errno {
		return firstError(
			checkName(r.Class),
			errorIf(!isDay(r.From) || !isDay(r.To) || !isFromTo(r.PerMille, 1, whole), api.ErrRange),
			errorIf(r.To <= r.From, api.ErrOrder),
		)
	})
}

// Remitted returns the thousandths that are taken off a class on a day.
func Remitted(l []api.Remission, class string, day int) (int, api.Errno) {
	if e := firstError(CheckRemissions(l), checkName(class), checkDay(day)); e != api.OK {
		return 0, e
	}
	return remitted(l, class, day), api.OK
}

func remitted(l []api.Remission, class string, day int) int {
	sum := 0
	for _, r := range l {
		if r.Class == class && r.From <= day && day < r.To {
			sum += r.PerMille
		}
	}
	return min(sum, whole)
}

// Fee returns the lines of charges, and the fee.
func Fee(l []api.Rate, r []api.Remission, c []api.Charge) ([]api.Line, int, api.Errno) {
	if e := firstError(CheckRates(l), CheckRemissions(r)); e != api.OK {
		return nil, 0, e
	}
	t := tariffOf(l)
	if e := checkEach(c, api.MaxCharges, t.checkCharge); e != api.OK {
		return nil, 0, e
	}
	var lines []api.Line
	amounts := 0
	for i, x := range c {
		rate, _ := t.on(x.Class, x.Day)
		perMille := remitted(r, x.Class, x.Day)
		amount := x.Units * rate * (whole - perMille)
		lines = append(lines, api.Line{Charge: i, Rate: rate, PerMille: perMille, Amount: amount})
		amounts += amount
	}
	return lines, (amounts + whole - 1) / whole, api.OK
}

func (t tariff) checkCharge(c api.Charge) api.Errno {
	_, missing := t.on(c.Class, c.Day)
	return firstError(
		checkName(c.Class),
		errorIf(!isDay(c.Day) || !isFromTo(c.Units, 1, api.MaxUnits), api.ErrRange),
		missing,
	)
}
