package consent

import (
	"maps"
	"slices"

	"mortsafe/api"
)

// mostListed is how many names a list of people has at most.
const mostListed = 40

// crowd is people, found by their names.
type crowd map[string]bool

func crowdOf(names ...string) crowd {
	c := crowd{}
	for _, name := range names {
		c[name] = true
	}
	return c
}

// peopleOf returns the people of a rule.
func peopleOf(r api.Rule) crowd {
	c := crowd{}
	for n := range nodes(r) {
		if n.Kind == api.RulePerson {
			c[n.Person] = true
		}
	}
	return c
}

func (c crowd) has(name string) bool { return c[name] }

func (c crowd) lacks(name string) bool { return !c[name] }

func (c crowd) names() []string { return slices.Sorted(maps.Keys(c)) }

// first returns the first one of some sets all of whom are in the crowd, and whether there
// is any.
func (c crowd) first(sets [][]string) ([]string, bool) {
	for _, names := range sets {
		if !slices.ContainsFunc(names, c.lacks) {
			return names, true
		}
	}
	return nil, false
}

// checkList returns the error of a list of people.
func checkList(names []string) api.Errno {
	if len(names) > mostListed {
		return api.ErrLarge
	}
	for i, name := range names {
		if !isName(name) {
			return api.ErrName
		}
		if i > 0 && name <= names[i-1] {
			return api.ErrOrder
		}
	}
	return api.OK
}

// People returns the people of a rule, ascending.
func People(r api.Rule) ([]string, api.Errno) {
	if e := CheckRule(r); e != api.OK {
		return nil, e
	}
	return peopleOf(r).names(), api.OK
}

// Enough tells whether those who signed are enough for a rule.
func Enough(r api.Rule, signed []string) (bool, api.Errno) {
	if e := firstError(CheckRule(r), checkList(signed)); e != api.OK {
		return false, e
	}
	return isEnough(r, crowdOf(signed...).has), api.OK
}

// Blocks tells whether those who refused block a rule.
func Blocks(r api.Rule, refused []string) (bool, api.Errno) {
	if e := firstError(CheckRule(r), checkList(refused)); e != api.OK {
		return false, e
	}
	return !isEnough(r, crowdOf(refused...).lacks), api.OK
}
