package allot

import (
	"slices"

	"mortsafe/api"
	"mortsafe/rule"
)

const (
	maxCrews    = 10
	maxMachines = 5
	maxPause    = 120
	lastMinute  = 1440
	maxClosed   = 60
	maxTime     = 600 // of a service, and of digging
	maxWait     = 60  // days from the first one of a funeral to the last one
)

// closed is the opening time of a day on which a hall is closed.
func closed() [2]int { return [2]int{} }

// CheckHall tells whether a hall is right.
func CheckHall(h api.Hall) api.Errno {
	isOutside := !isFromTo(h.Chapels, 1, api.MaxChapels) || !isFromTo(h.Crews, 1, maxCrews) ||
		!isFromTo(h.Machines, 0, maxMachines) || !isFromTo(h.Pause, 0, maxPause)
	return firstError(
		errorIf(isOutside, api.ErrRange),
		checkEach(h.Open[:], len(h.Open), checkOpen),
		checkEach(h.Closed, maxClosed, checkDay),
		errorIf(!ascends(h.Closed), api.ErrOrder),
	)
}

func isMinute(n int) bool { return isFromTo(n, 0, lastMinute) }

func checkOpen(open [2]int) api.Errno {
	return firstError(
		errorIf(!isMinute(open[0]) || !isMinute(open[1]), api.ErrRange),
		errorIf(open != closed() && open[0] >= open[1], api.ErrForm),
	)
}

// OpenOn returns the opening time of a day.
func OpenOn(h api.Hall, day int) ([2]int, api.Errno) {
	if e := firstError(CheckHall(h), checkDay(day)); e != api.OK {
		return closed(), e
	}
	return openOn(h, day), api.OK
}

func openOn(h api.Hall, day int) [2]int {
	if slices.Contains(h.Closed, day) {
		return closed()
	}
	weekday, _ := rule.Weekday(day)
	return h.Open[weekday]
}

// CheckFunerals tells whether the funerals of a hall are right.
func CheckFunerals(h api.Hall, l []api.Funeral) api.Errno {
	earlier := names{}
	return firstError(CheckHall(h), checkEach(l, api.MaxFunerals, func(f api.Funeral) api.Errno {
		return firstError(
			errorIf(!isName(f.Name), api.ErrName),
			earlier.add(f.Name),
			errorIf(!isDay(f.From) || !isDay(f.Until) || !isFromTo(f.Service, 1, maxTime) ||
				!isFromTo(f.Dig, 0, maxTime) || !isFromTo(f.Crews, 0, maxCrews), api.ErrRange),
			errorIf(f.Until < f.From || f.Until-f.From > maxWait, api.ErrOrder),
			errorIf(f.Crews > h.Crews || f.Machine && h.Machines == 0, api.ErrStock),
		)
	}))
}
