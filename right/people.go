package right

import (
	"iter"
	"slices"

	"mortsafe/api"
)

// mostParents is how many parents a person has.
const mostParents = 2

// people is what deeds say of people.
type people struct {
	dead              map[string]bool
	children, parents map[string][]string // in the order of the child deeds
	marriages         [][2]string
	wills             map[string][]api.Part // the last one of each person
	renounced         map[[2]string]bool    // who has renounced whose estate
}

func nobody() people {
	return people{
		dead:      map[string]bool{},
		children:  map[string][]string{},
		parents:   map[string][]string{},
		wills:     map[string][]api.Part{},
		renounced: map[[2]string]bool{},
	}
}

func (p *people) isDead(name string) bool { return p.dead[name] }

// checkLiving tells whether all of some people are living.
func (p *people) checkLiving(names ...string) api.Errno {
	return errorIf(slices.ContainsFunc(names, p.isDead), api.ErrState)
}

// spouses yields those to whom a person was married, from its last marriage on.
func (p *people) spouses(name string) iter.Seq[string] {
	return func(yield func(string) bool) {
		for _, m := range slices.Backward(p.marriages) {
			if m[0] == name && !yield(m[1]) || m[1] == name && !yield(m[0]) {
				return
			}
		}
	}
}

// spouse returns the spouse of a person, or "". Only the last marriage counts.
func (p *people) spouse(name string) string {
	for last := range p.spouses(name) {
		if !p.isDead(last) {
			return last
		}
		break
	}
	return ""
}

// reach returns whom relations lead to from a person, one after the other, ascending.
func reach(from string, relations map[string][]string) []string {
	reached := []string{from}
	for i := 0; i < len(reached); i++ {
		for _, name := range relations[reached[i]] {
			if !slices.Contains(reached, name) {
				reached = append(reached, name)
			}
		}
	}
	return slices.Sorted(slices.Values(reached[1:]))
}

func (p *people) descendants(name string) []string { return reach(name, p.children) }

func (p *people) ancestors(name string) []string { return reach(name, p.parents) }

// takeWill takes a will, of which CheckDeed has no error; so do the others here with
// their deeds.
func (p *people) takeWill(d api.Deed) api.Errno {
	if e := p.checkLiving(d.From); e != api.OK {
		return e
	}
	p.wills[d.From] = d.To
	return api.OK
}

func (p *people) takeRenounce(d api.Deed) api.Errno {
	estate := [2]string{d.From, d.To[0].Name}
	e := firstError(p.checkLiving(estate[:]...), errorIf(p.renounced[estate], api.ErrExists))
	if e != api.OK {
		return e
	}
	p.renounced[estate] = true
	return api.OK
}

func (p *people) takeChild(d api.Deed) api.Errno {
	parent, child := d.From, d.To[0].Name
	e := firstError(
		errorIf(slices.Contains(p.children[parent], child), api.ErrExists),
		errorIf(len(p.parents[child]) == mostParents, api.ErrFull),
		errorIf(slices.Contains(p.descendants(child), parent), api.ErrCycle),
	)
	if e != api.OK {
		return e
	}
	p.children[parent] = append(p.children[parent], child)
	p.parents[child] = append(p.parents[child], parent)
	return api.OK
}

func (p *people) takeMarriage(d api.Deed) api.Errno {
	pair := [2]string{d.From, d.To[0].Name}
	isMarried := p.spouse(pair[0]) != "" || p.spouse(pair[1]) != ""
	if e := firstError(p.checkLiving(pair[:]...), errorIf(isMarried, api.ErrClash)); e != api.OK {
		return e
	}
	p.marriages = append(p.marriages, pair)
	return api.OK
}
