package right

import (
	"slices"

	"mortsafe/api"
)

// estate is what a person leaves, by its will and by a law, and who has got what of it.
type estate struct {
	*people
	of  string
	law api.Law
	got shares
}

// estate returns who inherits from a living person by a law, ascending by name, and with
// which fractions.
func (p *people) estate(of string, law api.Law) ([]api.Part, api.Errno) {
	x := &estate{people: p, of: of, law: law, got: shares{}}
	rest := x.bequeath()
	if e := x.descend(rest); e != api.OK {
		return nil, e
	}
	return x.got.parts(), api.OK
}

func (x *estate) isAble(name string) bool {
	return name != x.of && !x.isDead(name) && !x.renounced[[2]string{name, x.of}]
}

// leads tells whether a child leads a line: it is able, or, by a law of stems, one of its
// children leads one.
func (x *estate) leads(child string) bool {
	return x.isAble(child) || x.law.Stems && slices.ContainsFunc(x.children[child], x.leads)
}

func (x *estate) lines(parent string) []string {
	var lines []string
	for _, child := range x.children[parent] {
		if x.leads(child) {
			lines = append(lines, child)
		}
	}
	return lines
}

// bequeath gives what the will gives, and returns the rest. No number can be too fine
// here.
func (x *estate) bequeath() api.Frac {
	rest := whole
	for _, p := range x.wills[x.of] {
		if x.isAble(p.Name) {
			x.got.give(p.Name, p.Share)
			rest = minus(rest, p.Share)
		}
	}
	return rest
}

// descend gives the rest by the law.
func (x *estate) descend(rest api.Frac) api.Errno {
	heir := x.spouse(x.of)
	if !x.isAble(heir) {
		heir = ""
	}
	if len(x.lines(x.of)) == 0 {
		return x.got.give(heir, rest)
	}
	if heir != "" {
		x.got.give(heir, times(rest, x.law.Spouse))
		rest = times(rest, minus(whole, x.law.Spouse))
	}
	return x.divide(x.of, rest)
}

// divide gives a part to the lines of a person, of which there is at least one.
func (x *estate) divide(parent string, part api.Frac) api.Errno {
	lines := x.lines(parent)
	each := times(part, api.Frac{Num: 1, Den: len(lines)})
	if isTooFine(each) {
		return api.ErrLarge
	}
	for _, line := range lines {
		if e := x.giveLine(line, each); e != api.OK {
			return e
		}
	}
	return api.OK
}

func (x *estate) giveLine(line string, part api.Frac) api.Errno {
	if x.isAble(line) {
		return x.got.give(line, part)
	}
	return x.divide(line, part)
}
