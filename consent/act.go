package consent

import "mortsafe/api"

// What people have done.
const (
	neither = iota
	hasSigned
	hasRefused
)

// The states of a collection of signatures.
const (
	open = iota
	enough
	blocked
)

// minds is what people have done, found by their names.
type minds map[string]int

// change returns what a person must have done before an act of a kind, and has done behind
// it.
func change(kind int) (before, behind int) {
	switch kind {
	case api.ActSign:
		return neither, hasSigned
	case api.ActUnsign:
		return hasSigned, neither
	case api.ActRefuse:
		return neither, hasRefused
	}
	return hasRefused, neither
}

// take takes a further act, or tells that it is not possible.
func (m minds) take(a api.Act) api.Errno {
	before, behind := change(a.Kind)
	if m[a.Person] != before {
		return api.ErrState
	}
	m[a.Person] = behind
	return api.OK
}

// who returns the people who have done something.
func (m minds) who(did int) crowd {
	c := crowd{}
	for name, mind := range m {
		if mind == did {
			c[name] = true
		}
	}
	return c
}

// CheckActs returns the error of acts.
func CheckActs(l []api.Act) api.Errno {
	if len(l) > api.MaxActs {
		return api.ErrLarge
	}
	m, last := minds{}, 0
	for _, a := range l {
		e := firstError(
			checkDay(a.Day),
			errorIf(a.Day < last, api.ErrOrder),
			errorIf(!isFromTo(a.Kind, api.ActSign, api.ActRelent), api.ErrKind),
			errorIf(!isName(a.Person), api.ErrName),
		)
		if e != api.OK {
			return e
		}
		if e := m.take(a); e != api.OK {
			return e
		}
		last = a.Day
	}
	return api.OK
}

// mindsOn returns what people have done up to and on a day, by acts that have no error.
func mindsOn(l []api.Act, day int) minds {
	m := minds{}
	for _, a := range l {
		if a.Day <= day {
			m.take(a)
		}
	}
	return m
}

// Signed returns those who have signed up to and on a day, and those who have refused.
func Signed(l []api.Act, day int) ([]string, []string, api.Errno) {
	if e := firstError(CheckActs(l), checkDay(day)); e != api.OK {
		return nil, nil, e
	}
	m := mindsOn(l, day)
	return m.who(hasSigned).names(), m.who(hasRefused).names(), api.OK
}

// State returns the state of a collection on a day, and the first smallest set that has
// brought it about.
func State(r api.Rule, l []api.Act, day int) (int, []string, api.Errno) {
	if e := firstError(CheckRule(r), CheckActs(l), checkDay(day)); e != api.OK {
		return 0, nil, e
	}
	q, e := ask(r)
	if e != api.OK {
		return 0, nil, e
	}
	m := mindsOn(l, day)
	if names, is := m.who(hasSigned).first(q.smallest(q.isEnough)); is {
		return enough, names, api.OK
	}
	if names, is := m.who(hasRefused).first(q.smallest(q.blocks)); is {
		return blocked, names, api.OK
	}
	return open, nil, api.OK
}

// FirstDay returns the first day on which those who have signed are enough.
func FirstDay(r api.Rule, l []api.Act) (int, api.Errno) {
	if e := firstError(CheckRule(r), CheckActs(l)); e != api.OK {
		return 0, e
	}
	if isEnoughOn(r, l, 0) {
		return 0, api.OK
	}
	for _, a := range l {
		if isEnoughOn(r, l, a.Day) {
			return a.Day, api.OK
		}
	}
	return 0, api.ErrNone
}

func isEnoughOn(r api.Rule, l []api.Act, day int) bool {
	return isEnough(r, mindsOn(l, day).who(hasSigned).has)
}
