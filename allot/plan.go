package allot

import (
	"slices"

	"mortsafe/api"
)

const nowhere = -1

// plan is an allotment in which wishes may still move.
type plan struct {
	pairs [][]int
	at    []int // where each wish is, or nowhere
	left  []int // the room left of each vacancy
	fixed int   // so many wishes, the first ones, stay where they are
}

// greatest returns a plan that places as many wishes as possible.
func greatest(w []api.Wish, v []api.Vacancy) *plan {
	p := &plan{pairs: pairs(w, v), at: slices.Repeat([]int{nowhere}, len(w)), left: rooms(v)}
	for wish := range p.at {
		p.settle(wish, p.untried())
	}
	return p
}

// untried returns that no vacancy has been tried.
func (p *plan) untried() []bool { return make([]bool, len(p.left)) }

// settle puts a wish into the first of its vacancies that has room, or into which it can
// come by moving others; it tells whether there is one. A vacancy that was tried in vain is
// not tried again, so that this ends.
func (p *plan) settle(wish int, tried []bool) bool {
	return slices.ContainsFunc(p.pairs[wish], func(vacancy int) bool {
		if tried[vacancy] {
			return false
		}
		tried[vacancy] = true
		if p.left[vacancy] == 0 && !p.vacate(vacancy, tried) {
			return false
		}
		p.put(wish, vacancy)
		return true
	})
}

// vacate moves one of the wishes out of a vacancy, if that can be.
func (p *plan) vacate(vacancy int, tried []bool) bool {
	for wish := p.fixed; wish < len(p.at); wish++ {
		if p.at[wish] == vacancy && p.settle(wish, tried) {
			return true
		}
	}
	return false
}

func (p *plan) put(wish, vacancy int) {
	p.leave(wish)
	p.at[wish] = vacancy
	p.left[vacancy]--
}

func (p *plan) leave(wish int) {
	if vacancy := p.at[wish]; vacancy != nowhere {
		p.left[vacancy]++
		p.at[wish] = nowhere
	}
}

// cover returns a cover that proves that a greatest plan is one. What is tried in vain for
// the wishes that are nowhere is full, and the wishes in it have no other vacancies: so
// these vacancies, and the wishes that are elsewhere, meet all pairs.
func (p *plan) cover() api.Cover {
	tried := p.untried()
	for wish, at := range p.at {
		if at == nowhere {
			p.settle(wish, tried)
		}
	}
	var c api.Cover
	for wish, at := range p.at {
		if at != nowhere && !tried[at] {
			c.Wishes = append(c.Wishes, wish)
		}
	}
	for vacancy := range tried {
		if tried[vacancy] {
			c.Vacancies = append(c.Vacancies, vacancy)
		}
	}
	return c
}

// first makes a greatest plan the first one of them, as lists are compared. The new graves
// become one more vacancy behind all others: so each wish keeps a place while the ones
// before it are fixed, one after the other.
func (p *plan) first() []int {
	graves := len(p.left)
	p.left = append(p.left, 0)
	for wish := range p.at {
		p.pairs[wish] = append(p.pairs[wish], graves)
		if p.at[wish] == nowhere {
			p.at[wish] = graves
		}
	}
	for wish := range p.at {
		p.fixed = wish + 1
		p.leave(wish)
		p.settle(wish, p.untried())
	}
	for wish := range p.at {
		if p.at[wish] == graves {
			p.at[wish] = nowhere
		}
	}
	return p.at
}

// Allot returns a greatest allotment, and a cover that proves that it is one.
func Allot(w []api.Wish, v []api.Vacancy) ([]int, api.Cover, api.Errno) {
	if e := check(w, v); e != api.OK {
		return nil, api.Cover{}, e
	}
	p := greatest(w, v)
	return p.at, p.cover(), api.OK
}

// NewGraves returns how many wishes need a new grave.
func NewGraves(w []api.Wish, v []api.Vacancy) (int, api.Errno) {
	if e := check(w, v); e != api.OK {
		return 0, e
	}
	return len(w) - placed(greatest(w, v).at), api.OK
}

// placed returns how many wishes have a vacancy.
func placed(a []int) int {
	n := 0
	for _, vacancy := range a {
		if vacancy != nowhere {
			n++
		}
	}
	return n
}

// First returns the first one of the greatest allotments.
func First(w []api.Wish, v []api.Vacancy) ([]int, api.Errno) {
	if e := check(w, v); e != api.OK {
		return nil, e
	}
	return greatest(w, v).first(), api.OK
}
