package office

import (
	"strconv"

	"mortsafe/api"
	"mortsafe/grave"
	"mortsafe/money"
	"mortsafe/person"
	"mortsafe/right"
	"mortsafe/rule"
)

// The answers where there is nothing to tell.
const (
	unknown = "unknown"
	nothing = "nothing"
	none    = "none"
)

// between stands between the elements of an answer.
const between = ", "

// asked is a query about the facts of a state.
type asked struct {
	base  api.Base
	query api.Query
	facts []item
}

// ask returns what is asked, and the error of the arguments.
func ask(b api.Base, l []api.Entry, q api.Query) (asked, api.Errno) {
	wrong := CheckBase(b)
	items, unclear := understandAll(l)
	if e := firstError(wrong, unclear, checkQuery(b, q)); e != api.OK {
		return asked{}, e
	}
	return asked{b, q, factsAt(items, q.At)}, api.OK
}

func checkQuery(b api.Base, q api.Query) api.Errno {
	isClass := q.Kind == api.AskClass
	return firstError(
		errorIf(!isFromTo(q.Kind, api.AskRemain, api.AskClass), api.ErrKind),
		checkDays(q.At),
		errorIf(isClass && q.Name != "" || !isClass && q.Number != 0, api.ErrForm),
		errorIf(!isClass && !isName(q.Name), api.ErrName),
		errorIf(isClass && !isFromTo(q.Number, 0, b.Notes-1), api.ErrRange),
	)
}

// subject returns the word of the facts by which a query is answered.
func (a asked) subject() string {
	switch a.query.Kind {
	case api.AskRemain, api.AskSite:
		return graveWord
	case api.AskHolders:
		return rightWord
	case api.AskValue:
		return ruleWord
	case api.AskBalance:
		return moneyWord
	}
	return personWord
}

// answerOf returns the answer out of a state that is made of some facts. Those of other subjects
// are not taken, since facts are refused because of facts of their own kind alone.
func (a asked) answerOf(facts []item) string {
	var own []item
	for _, x := range facts {
		if x.word() == a.subject() {
			own = append(own, x)
		}
	}
	return stateOf(a.base, own).answer(a.query)
}

// answer returns the answer to a query that has no error.
func (s *state) answer(q api.Query) string {
	day := q.At[1]
	switch q.Kind {
	case api.AskRemain:
		return s.answerRemain(q.Name, day)
	case api.AskSite:
		return s.answerSite(q.Name, day)
	case api.AskHolders:
		holders, _ := right.Holders(s.rights(), q.Name, day)
		return textOr(written(holders, between, writePart), none)
	case api.AskValue:
		return s.answerValue(q.Name, q.At)
	case api.AskBalance:
		n, _ := money.Balance(s.Postings, q.Name, day)
		return strconv.Itoa(n)
	}
	class, _ := person.ClassOf(s.Notes, s.Decisions, q.Number)
	return written(class, between, strconv.Itoa)
}

func textOr(text, instead string) string {
	if text == "" {
		return instead
	}
	return text
}

func (s *state) answerRemain(remain string, day int) string {
	lot, e := grave.Where(s.Yard, s.Events, remain, day)
	if e != api.OK {
		return unknown
	}
	return writeLot(lot)
}

func writeLot(lot api.Lot) string {
	text := "in keeping"
	switch lot.State {
	case api.Lies:
		text = "at " + lot.Site + " " + strconv.Itoa(lot.Level)
	case api.Gathered:
		text = "gathered"
	case api.Scattered:
		text = "scattered at " + lot.Site
	}
	return text + " since " + strconv.Itoa(lot.Since)
}

func (s *state) answerSite(site string, day int) string {
	lots, e := grave.Within(s.Yard, s.Events, site, day)
	if e != api.OK {
		return unknown
	}
	list := written(lots, between, func(lot api.Lot) string { return strconv.Itoa(lot.Level) + " " + lot.Remain })
	return textOr(list, nothing)
}

func writePart(p api.Part) string {
	return textOr(p.Name, "?") + " " + strconv.Itoa(p.Share.Num) + "/" + strconv.Itoa(p.Share.Den)
}

// answerValue asks package rule, which is asked for the day on which something holds first.
func (s *state) answerValue(name string, at [2]int) string {
	value, e := rule.Value(s.Provisions, name, [2]int{at[1], at[0]})
	if e != api.OK {
		return none
	}
	return strconv.Itoa(value)
}

// Answer returns the answer to a query.
func Answer(b api.Base, l []api.Entry, q api.Query) (string, api.Errno) {
	a, e := ask(b, l, q)
	if e != api.OK {
		return "", e
	}
	return a.answerOf(a.facts), api.OK
}
