package consent

import (
	"slices"

	"mortsafe/api"
)

func personNamed(name string) api.Rule { return api.Rule{Kind: api.RulePerson, Person: name} }

// withParts returns a node with something else in place of each part, in memory of its own.
func withParts(r api.Rule, by func(part api.Rule) api.Rule) api.Rule {
	var parts []api.Rule
	for _, part := range r.Parts {
		parts = append(parts, by(part))
	}
	r.Weights, r.Parts = slices.Clone(r.Weights), parts
	return r
}

// replaced returns a rule with something else in place of each person, in memory of its
// own as long as what replaces them is.
func replaced(r api.Rule, by func(name string) api.Rule) api.Rule {
	if r.Kind == api.RulePerson {
		return by(r.Person)
	}
	return withParts(r, func(part api.Rule) api.Rule { return replaced(part, by) })
}

// Dual returns the dual of a rule.
func Dual(r api.Rule) (api.Rule, api.Errno) {
	if e := CheckRule(r); e != api.OK {
		return api.Rule{}, e
	}
	return dual(r), api.OK
}

func dual(r api.Rule) api.Rule {
	d := withParts(r, dual)
	switch r.Kind {
	case api.RuleAll:
		d.Kind = api.RuleAny
	case api.RuleAny:
		d.Kind = api.RuleAll
	case api.RuleSum:
		d.Need = max(sum(r.Weights...)-r.Need+1, 0)
	}
	return d
}

// Normal returns any of all people of each smallest set that is enough.
func Normal(r api.Rule) (api.Rule, api.Errno) {
	q, e := ask(r)
	if e != api.OK {
		return api.Rule{}, e
	}
	normal := api.Rule{Kind: api.RuleAny}
	for _, names := range q.smallest(q.isEnough) {
		all := api.Rule{Kind: api.RuleAll}
		for _, name := range names {
			all.Parts = append(all.Parts, personNamed(name))
		}
		normal.Parts = append(normal.Parts, all)
	}
	if isLarge(normal) {
		return api.Rule{}, api.ErrLarge
	}
	return normal, api.OK
}

// Given returns the rule that is left when some have signed and others have refused.
func Given(r api.Rule, signed, refused []string) (api.Rule, api.Errno) {
	e := firstError(CheckRule(r), checkList(signed), checkList(refused))
	if e != api.OK {
		return api.Rule{}, e
	}
	signers, refusers := crowdOf(signed...), crowdOf(refused...)
	if slices.ContainsFunc(signed, refusers.has) {
		return api.Rule{}, api.ErrClash
	}
	given := func(name string) api.Rule {
		switch {
		case signers.has(name):
			return api.Rule{Kind: api.RuleAll}
		case refusers.has(name):
			return api.Rule{Kind: api.RuleAny}
		}
		return personNamed(name)
	}
	return replaced(r, given), api.OK
}

// Put returns the rule with another rule in place of a person.
func Put(r api.Rule, name string, by api.Rule) (api.Rule, api.Errno) {
	e := firstError(CheckRule(r), errorIf(!isName(name), api.ErrName), CheckRule(by))
	if e != api.OK {
		return api.Rule{}, e
	}
	if peopleOf(r).lacks(name) {
		return api.Rule{}, api.ErrMissing
	}
	put := replaced(r, func(other string) api.Rule {
		if other == name {
			return replaced(by, personNamed)
		}
		return personNamed(other)
	})
	if isLarge(put) {
		return api.Rule{}, api.ErrLarge
	}
	return put, api.OK
}
