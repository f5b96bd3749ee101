package rule

import (
	"slices"
	"strconv"

	"mortsafe/api"
)

const mostValue = 1000000000

// CheckProvisions tells whether entries are right, and in their order.
func CheckProvisions(l []api.Provision) api.Errno {
	if len(l) > api.MaxProvisions {
		return api.ErrLarge
	}
	for i, p := range l {
		if e := checkProvision(p); e != api.OK {
			return e
		}
		if i > 0 && p.Entered < l[i-1].Entered {
			return api.ErrOrder
		}
	}
	return api.OK
}

func checkProvision(p api.Provision) api.Errno {
	return firstError(
		errorIf(!isName(p.Name), api.ErrName),
		errorIf(!isFromTo(p.Value, -mostValue, mostValue), api.ErrRange),
		checkDays(p.From, p.Entered),
		errorIf(p.Repeal && p.Value != 0, api.ErrForm),
	)
}

// Next returns the entries with one more behind them.
func Next(l []api.Provision, p api.Provision) ([]api.Provision, api.Errno) {
	if e := CheckProvisions(l); e != api.OK {
		return nil, e
	}
	more := append(slices.Clone(l), p)
	if e := CheckProvisions(more); e != api.OK {
		return nil, e
	}
	if p.Repeal && !heldBy(l, p.Name, [2]int{p.From, p.Entered}).holds {
		return nil, api.ErrMissing
	}
	return more, api.OK
}

// deciding returns the numbers of the entries that decide, by their names.
func deciding(l []api.Provision, at [2]int) map[string]int {
	found := map[string]int{}
	for i, p := range l {
		if p.From > at[0] || p.Entered > at[1] {
			continue
		}
		if earlier, is := found[p.Name]; !is || p.From >= l[earlier].From {
			found[p.Name] = i
		}
	}
	return found
}

// held is the value of a name on a day, or that it has none.
type held struct {
	value int
	holds bool
}

func heldBy(l []api.Provision, name string, at [2]int) held {
	i, is := deciding(l, at)[name]
	if !is || l[i].Repeal {
		return held{}
	}
	return held{l[i].Value, true}
}

// Source returns the number of the entry that decides.
func Source(l []api.Provision, name string, at [2]int) (int, api.Errno) {
	if e := firstError(CheckProvisions(l), checkDays(at[:]...)); e != api.OK {
		return 0, e
	}
	i, is := deciding(l, at)[name]
	return i, errorIf(!is, api.ErrMissing)
}

// Value returns the value that a name has.
func Value(l []api.Provision, name string, at [2]int) (int, api.Errno) {
	i, e := Source(l, name, at)
	if e != api.OK {
		return 0, e
	}
	return l[i].Value, errorIf(l[i].Repeal, api.ErrNone)
}

// Names returns the names that have a value, ascending.
func Names(l []api.Provision, at [2]int) ([]string, api.Errno) {
	if e := firstError(CheckProvisions(l), checkDays(at[:]...)); e != api.OK {
		return nil, e
	}
	var names []string
	for name, i := range deciding(l, at) {
		if !l[i].Repeal {
			names = append(names, name)
		}
	}
	slices.Sort(names)
	return names, api.OK
}

// Consolidated returns a line for each name that has a value.
func Consolidated(l []api.Provision, at [2]int) (string, api.Errno) {
	names, e := Names(l, at)
	if e != api.OK {
		return "", e
	}
	text, sources := "", deciding(l, at)
	for _, name := range names {
		text += line(name, strconv.Itoa(l[sources[name]].Value)) + "\n"
	}
	return text, api.OK
}

// Changes returns the days from which on a name has another value, or none any
// more, ascending.
func Changes(l []api.Provision, name string, known int) ([]api.RuleChange, api.Errno) {
	if e := firstError(CheckProvisions(l), checkDays(known)); e != api.OK {
		return nil, e
	}
	days := beginnings(l, name, known)
	if len(days) == 0 {
		return nil, api.ErrMissing
	}
	var changes []api.RuleChange
	before := held{}
	for _, day := range days {
		now := heldBy(l, name, [2]int{day, known})
		if now != before {
			changes = append(changes, api.RuleChange{Day: day, Value: now.value, Holds: now.holds})
		}
		before = now
	}
	return changes, api.OK
}

// beginnings returns the days from which on known entries of a name hold, ascending.
func beginnings(l []api.Provision, name string, known int) []int {
	var days []int
	for _, p := range l {
		if p.Name == name && p.Entered <= known {
			days = append(days, p.From)
		}
	}
	slices.Sort(days)
	return slices.Compact(days)
}
