package office

import (
	"mortsafe/api"
	"mortsafe/grave"
	"mortsafe/money"
	"mortsafe/person"
	"mortsafe/right"
	"mortsafe/rule"
)

// state is what facts lead to: those that were taken, and those that were refused.
type state struct {
	api.Base
	api.Known
	refused []api.Refusal
}

// stateOf returns the state of facts, one after the other.
func stateOf(b api.Base, facts []item) *state {
	s := &state{Base: b}
	for _, x := range facts {
		if e := s.take(x.content); e != api.OK {
			s.refused = append(s.refused, api.Refusal{Entry: x.Entry, Err: e})
		}
	}
	return s
}

// stateAt returns the state that was known of entries, and the error of the arguments.
func stateAt(b api.Base, l []api.Entry, at [2]int) (*state, api.Errno) {
	wrong := CheckBase(b)
	items, unclear := understandAll(l)
	if e := firstError(wrong, unclear, checkDays(at)); e != api.OK {
		return nil, e
	}
	return stateOf(b, factsAt(items, at)), api.OK
}

// take takes a fact behind those of its kind, unless it is refused.
func (s *state) take(fact content) api.Errno {
	switch x := fact.(type) {
	case event:
		return keep(&s.Events)(grave.Add(s.Yard, s.Events, x.Event))
	case decision:
		return keep(&s.Decisions)(person.Decide(s.Notes, s.Decisions, x.Decision))
	case deed:
		rights, e := right.Next(s.rights(), x.Deed)
		return keep(&s.Deeds)(rights.Deeds, e)
	case posting:
		return keep(&s.Postings)(money.Post(s.Postings, x.Posting))
	case provision:
		return keep(&s.Provisions)(rule.Next(s.Provisions, x.Provision))
	}
	return api.OK
}

// keep returns a function that puts a longer list in the place of one, unless there is an error.
func keep[T any](l *[]T) func(longer []T, e api.Errno) api.Errno {
	return func(longer []T, e api.Errno) api.Errno {
		if e == api.OK {
			*l = longer
		}
		return e
	}
}

func (s *state) rights() api.Rights { return api.Rights{Laws: s.Laws, Deeds: s.Deeds} }

// State returns the facts that were taken into a state, and the others.
func State(b api.Base, l []api.Entry, at [2]int) (api.Known, []api.Refusal, api.Errno) {
	s, e := stateAt(b, l, at)
	if e != api.OK {
		return api.Known{}, nil, e
	}
	return s.Known, s.refused, api.OK
}
