package notice

import (
	"mortsafe/api"
	"mortsafe/rule"
)

// checkOrder returns the error of an order, and of the pair of the first day and of how many
// monuments are visited on a day.
func checkOrder(order []int, at [2]int) api.Errno {
	earlier := map[int]bool{}
	return firstError(
		checkEach(order, api.MaxMonuments, func(monument int) api.Errno {
			isTwice := earlier[monument]
			earlier[monument] = true
			return errorIf(isTwice, api.ErrExists)
		}),
		errorIf(!isDay(at[0]) || !isFromTo(at[1], 1, api.MaxMonuments), api.ErrRange),
	)
}

// PlanRound puts the monuments of an order on working days, as early as the order lets them.
func PlanRound(p api.Procedure, order []int, at [2]int) ([]api.Stop, api.Errno) {
	if e := firstError(CheckProcedure(p), checkOrder(order, at)); e != api.OK {
		return nil, e
	}
	plan := make([]api.Stop, len(order))
	day, next := 0, at[0]
	for i, monument := range order {
		if i%at[1] == 0 {
			var e api.Errno
			if day, e = rule.AddWorking(p.Holidays, next, 0); e != api.OK {
				return nil, e
			}
			next = day + 1
		}
		plan[i] = api.Stop{Monument: monument, Day: day}
	}
	return plan, api.OK
}

// CheckRound returns the last day of a plan.
func CheckRound(p api.Procedure, order []int, l []api.Stop, at [2]int) (int, api.Errno) {
	if e := firstError(CheckProcedure(p), checkOrder(order, at)); e != api.OK {
		return 0, e
	}
	isVisited := map[int]bool{}
	for _, monument := range order {
		isVisited[monument] = false
	}
	stopsOn := map[int]int{}
	last := at[0]
	for _, s := range l {
		isTwice, isAsked := isVisited[s.Monument]
		if e := firstError(
			errorIf(!isAsked, api.ErrMissing),
			errorIf(isTwice, api.ErrExists),
			checkStopDay(p, s.Day, at[0]),
			errorIf(stopsOn[s.Day] == at[1], api.ErrFull),
		); e != api.OK {
			return 0, e
		}
		isVisited[s.Monument] = true
		stopsOn[s.Day]++
		last = max(last, s.Day)
	}
	// Each stop has another monument of the order, so that none is left if there are as many.
	if len(l) < len(order) {
		return 0, api.ErrGap
	}
	return last, api.OK
}

// checkStopDay returns the error of the day of a stop in a plan that begins on a day.
func checkStopDay(p api.Procedure, day, first int) api.Errno {
	isWorking, e := rule.IsWorking(p.Holidays, day)
	return firstError(e, errorIf(day < first, api.ErrEarly), errorIf(!isWorking, api.ErrState))
}
