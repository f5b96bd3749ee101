package right_test

import (
	"cmp"
	"maps"
	"math/big"
	"slices"

	"mortsafe/api"
	"mortsafe/rule"
)

// This file says once more, and in other ways, what the chapter promises; the tests of
// the whole compare it with the package.

func rat(f api.Frac) *big.Rat { return big.NewRat(int64(f.Num), int64(f.Den)) }

func isFine(x *big.Rat) bool { return x.Denom().Cmp(big.NewInt(api.MaxShare)) > 0 }

// modelParts writes fractions as parts, or returns nil if one is too fine.
func modelParts(l map[string]*big.Rat) []api.Part {
	to := []api.Part{}
	for _, name := range slices.Sorted(maps.Keys(l)) {
		if isFine(l[name]) {
			return nil
		}
		if l[name].Sign() > 0 {
			to = append(to, part(name, int(l[name].Num().Int64()), int(l[name].Denom().Int64())))
		}
	}
	return to
}

// modelSurrender returns the holders behind a surrender, or nil if a share is too fine.
func modelSurrender(l []api.Part, name string) []api.Part {
	shares, sum := map[string]*big.Rat{}, new(big.Rat)
	for _, p := range l {
		if p.Name != name {
			shares[p.Name] = rat(p.Share)
			sum.Add(sum, rat(p.Share))
		}
	}
	for other := range shares {
		shares[other] = new(big.Rat).Quo(shares[other], sum)
	}
	return modelParts(shares)
}

// modelHeirs returns what three children have, and those who got 1/16 of the rest before,
// one after the other.
func modelHeirs(given int) []api.Part {
	shares := map[string]*big.Rat{}
	rest := big.NewRat(1, 1)
	for i := range given {
		shares[numbered("n", i)] = new(big.Rat).Mul(rest, big.NewRat(1, 16))
		rest.Mul(rest, big.NewRat(15, 16))
	}
	for _, name := range []string{"a", "b", "c"} {
		shares[name] = new(big.Rat).Mul(rest, big.NewRat(1, 3))
	}
	return modelParts(shares)
}

// modelMajority takes the greatest shares one after the other.
func modelMajority(holders []api.Part) ([]string, api.Errno) {
	left := slices.DeleteFunc(slices.Clone(holders), func(p api.Part) bool { return p.Name == "" })
	slices.SortFunc(left, func(a, b api.Part) int {
		return cmp.Or(rat(b.Share).Cmp(rat(a.Share)), cmp.Compare(a.Name, b.Name))
	})
	sum := new(big.Rat)
	var names []string
	for _, p := range left {
		if sum.Cmp(big.NewRat(1, 2)) > 0 {
			break
		}
		sum.Add(sum, rat(p.Share))
		names = append(names, p.Name)
		if isFine(sum) {
			return nil, api.ErrLarge
		}
	}
	if sum.Cmp(big.NewRat(1, 2)) <= 0 {
		return nil, api.ErrNone
	}
	slices.Sort(names)
	return names, api.OK
}

// model is deeds that were accepted, and the rights that were granted, with what everybody
// holds of them; all other things are looked for in the deeds.
type model struct {
	laws  []api.Law
	past  []api.Deed
	given []*modelRight
	fine  bool // whether a number on the way was too fine
}

type modelRight struct {
	grant api.Deed
	end   int
	has   map[string]*big.Rat
	died  []string
}

// modelOn returns the model on a day.
func modelOn(r api.Rights, day int) *model {
	m := &model{laws: r.Laws}
	for _, d := range r.Deeds {
		if d.Day <= day {
			m.accept(d)
		}
	}
	return m
}

// happened counts the deeds of a kind of one, and of another one unless that is empty.
func (m *model) happened(kind int, from, to string) int {
	count := 0
	for _, d := range m.past {
		if d.Kind == kind && d.From == from && (to == "" || d.To[0].Name == to) {
			count++
		}
	}
	return count
}

func (m *model) dead(name string) bool { return m.happened(api.DeedDeath, name, "") > 0 }

func (m *model) anyDead(l ...string) bool { return slices.ContainsFunc(l, m.dead) }

func (m *model) children(name string) []string {
	var l []string
	for _, d := range m.past {
		if d.Kind == api.DeedChild && d.From == name {
			l = append(l, d.To[0].Name)
		}
	}
	return l
}

func (m *model) parents(name string) []string {
	var l []string
	for _, d := range m.past {
		if d.Kind == api.DeedChild && d.To[0].Name == name {
			l = append(l, d.From)
		}
	}
	return l
}

// descends tells whether a person is a descendant of another one.
func (m *model) descends(name, of string) bool {
	return slices.ContainsFunc(m.parents(name), func(parent string) bool { return parent == of || m.descends(parent, of) })
}

func (m *model) spouse(name string) string {
	last := ""
	for _, d := range m.past {
		if d.Kind == api.DeedMarriage && d.From == name {
			last = d.To[0].Name
		}
		if d.Kind == api.DeedMarriage && d.To[0].Name == name {
			last = d.From
		}
	}
	if m.dead(last) {
		return ""
	}
	return last
}

func (m *model) married(a, b string) bool {
	return m.happened(api.DeedMarriage, a, b)+m.happened(api.DeedMarriage, b, a) > 0
}

// force returns the right of a place that is in force on a day, or nil.
func (m *model) force(place string, day int) *modelRight {
	for _, r := range slices.Backward(m.given) {
		if r.grant.Place == place {
			if len(r.has) == 0 || r.end >= 0 && r.end <= day {
				return nil
			}
			return r
		}
	}
	return nil
}

// on keeps in mind whether a number on the way is too fine.
func (m *model) on(x *big.Rat) *big.Rat {
	m.fine = m.fine || isFine(x)
	return x
}

// add gives a part to somebody.
func (m *model) add(has map[string]*big.Rat, name string, x *big.Rat) {
	if x.Sign() == 0 {
		return
	}
	m.on(x)
	if old := has[name]; old != nil {
		x = new(big.Rat).Add(old, x)
	}
	has[name] = m.on(x)
}

// leads tells whether somebody leads a line of p by a law.
func (m *model) leads(name, p string, law api.Law) bool {
	if m.able(name, p) {
		return true
	}
	any := false
	for _, c := range m.children(name) {
		any = any || law.Stems && m.leads(c, p, law)
	}
	return any
}

func (m *model) able(name, p string) bool {
	return !m.dead(name) && name != p && m.happened(api.DeedRenounce, name, p) == 0
}

// lines gives x to the lines of somebody, and tells whether there are any.
func (m *model) lines(has map[string]*big.Rat, name, p string, law api.Law, x *big.Rat) bool {
	var l []string
	for _, c := range m.children(name) {
		if m.leads(c, p, law) {
			l = append(l, c)
		}
	}
	for _, c := range l {
		each := m.on(new(big.Rat).Quo(x, big.NewRat(int64(len(l)), 1)))
		if m.able(c, p) {
			m.add(has, c, each)
		} else {
			m.lines(has, c, p, law, each)
		}
	}
	return len(l) > 0
}

func (m *model) estate(p string, day int) map[string]*big.Rat {
	law := api.Law{Spouse: frac(0, 1)}
	for _, l := range m.laws {
		if l.From <= day {
			law = l
		}
	}
	has, rest := map[string]*big.Rat{}, big.NewRat(1, 1)
	for _, d := range slices.Backward(m.past) {
		if d.Kind == api.DeedWill && d.From == p {
			for _, to := range d.To {
				if m.able(to.Name, p) {
					m.add(has, to.Name, rat(to.Share))
					rest.Sub(rest, rat(to.Share))
				}
			}
			break
		}
	}
	spouse := m.spouse(p)
	if spouse != "" && !m.able(spouse, p) {
		spouse = ""
	}
	before := m.fine
	if !m.lines(map[string]*big.Rat{}, p, p, law, rest) {
		m.add(has, spouse, rest)
		return has
	}
	m.fine = before
	if spouse != "" {
		m.add(has, spouse, new(big.Rat).Mul(rest, rat(law.Spouse)))
		rest.Mul(rest, new(big.Rat).Sub(big.NewRat(1, 1), rat(law.Spouse)))
	}
	m.lines(has, p, p, law, rest)
	return has
}

// accept takes a further deed that is right by itself, or tells why not. Behind ErrLarge
// the model is of no use.
func (m *model) accept(d api.Deed) api.Errno {
	if len(m.past) == 60 {
		return api.ErrLarge
	}
	if n := len(m.past); n > 0 && m.past[n-1].Day > d.Day {
		return api.ErrOrder
	}
	m.fine = false
	e := api.OK
	switch d.Kind {
	case api.DeedGrant, api.DeedTransfer, api.DeedSurrender, api.DeedRenewal:
		e = m.acceptRight(d)
	case api.DeedDeath, api.DeedWill:
		e = m.acceptDeath(d)
	default:
		e = m.acceptPair(d, d.From, d.To[0].Name)
	}
	if e == api.OK && m.fine {
		return api.ErrLarge
	}
	if e == api.OK {
		m.past = append(m.past, d)
	}
	return e
}

func (m *model) acceptRight(d api.Deed) api.Errno {
	r := m.force(d.Place, d.Day)
	if d.Kind == api.DeedGrant {
		return m.acceptGrant(d, r != nil)
	}
	if r == nil {
		return api.ErrMissing
	}
	if d.Kind == api.DeedRenewal {
		if r.end < 0 {
			return api.ErrKind
		}
		end, e := rule.AddMonths(r.end, 12*d.Years)
		r.end = end
		return e
	}
	had := r.has[d.From]
	if d.Kind == api.DeedTransfer && r.grant.Class == api.ClassCommon {
		return api.ErrKind
	}
	if had == nil {
		return api.ErrRight
	}
	if d.Kind == api.DeedSurrender {
		delete(r.has, d.From)
		for name, x := range r.has {
			r.has[name] = m.on(new(big.Rat).Quo(x, new(big.Rat).Sub(big.NewRat(1, 1), had)))
		}
		return api.OK
	}
	if m.anyDead(names(d.To)...) {
		return api.ErrState
	}
	delete(r.has, d.From)
	stays := big.NewRat(1, 1)
	for _, p := range d.To {
		stays.Sub(stays, rat(p.Share))
		m.add(r.has, p.Name, new(big.Rat).Mul(had, rat(p.Share)))
	}
	m.add(r.has, d.From, stays.Mul(stays, had))
	return api.OK
}

func names(l []api.Part) []string {
	return repeat(len(l), func(i int) string { return l[i].Name })
}

func (m *model) acceptGrant(d api.Deed, clash bool) api.Errno {
	if clash {
		return api.ErrClash
	}
	if m.anyDead(names(d.To)...) {
		return api.ErrState
	}
	r := &modelRight{grant: d, end: -1, has: map[string]*big.Rat{}}
	if d.Years > 0 {
		end, e := rule.AddMonths(d.Day, 12*d.Years)
		if e != api.OK {
			return e
		}
		r.end = end
	}
	for _, p := range d.To {
		r.has[p.Name] = rat(p.Share)
	}
	m.given = append(m.given, r)
	return api.OK
}

func (m *model) acceptDeath(d api.Deed) api.Errno {
	if m.dead(d.From) {
		return api.ErrState
	}
	if d.Kind == api.DeedWill {
		return api.OK
	}
	var heirs map[string]*big.Rat
	for _, r := range m.given {
		had := r.has[d.From]
		if had == nil || m.force(r.grant.Place, d.Day) != r {
			continue
		}
		if heirs == nil {
			heirs = m.estate(d.From, d.Day)
		}
		delete(r.has, d.From)
		for name, x := range heirs {
			m.add(r.has, name, new(big.Rat).Mul(x, had))
		}
		r.died = append(r.died, d.From)
	}
	return api.OK
}

// acceptPair accepts deeds of two people.
func (m *model) acceptPair(d api.Deed, from, to string) api.Errno {
	dead, again := m.anyDead(from, to), m.happened(d.Kind, from, to) > 0
	switch d.Kind {
	case api.DeedRenounce:
		if dead {
			return api.ErrState
		}
		if again {
			return api.ErrExists
		}
	case api.DeedMarriage:
		if dead {
			return api.ErrState
		}
		if m.spouse(from)+m.spouse(to) != "" {
			return api.ErrClash
		}
	case api.DeedChild:
		if again {
			return api.ErrExists
		}
		if len(m.parents(to)) == 2 {
			return api.ErrFull
		}
		if m.descends(from, to) {
			return api.ErrCycle
		}
	}
	return api.OK
}

// mayBury asks of all people of the names who is entitled and near enough.
func (m *model) mayBury(r *modelRight, name string, all []string) bool {
	class := r.grant.Class
	if class == api.ClassCommon {
		return true
	}
	for _, x := range all {
		if r.has[x] == nil && !slices.Contains(r.died, x) {
			continue
		}
		near := class != api.ClassExclusive && (m.married(x, name) || m.descends(name, x))
		above := (class == api.ClassTerm || class == api.ClassPerpetual) && slices.Contains(m.parents(x), name)
		if x == name || near || above {
			return true
		}
	}
	return false
}

// modelContradicts looks for contradictions by people, and by places and days.
func modelContradicts(l []api.Record) bool {
	if modelCircle(l) {
		return true
	}
	death, share := map[string]int{}, map[[2]string]map[int]int{}
	for _, r := range l {
		if day, is := death[r.Name]; r.Kind == api.RecordDied && is && day != r.Day {
			return true
		}
		if r.Kind == api.RecordDied {
			death[r.Name] = r.Day
		}
	}
	sums := map[string]map[int]int{}
	for i, r := range l {
		if day, is := death[r.Name]; is && r.Kind != api.RecordChild && r.Day > day {
			return true
		}
		for _, other := range l[:i] {
			if r.Kind == api.RecordGrant && other.Kind == api.RecordGrant && r.Place == other.Place && r.Name != other.Name && max(r.Day, other.Day) < min(r.Until, other.Until) {
				return true
			}
		}
		if r.Kind != api.RecordHolds {
			continue
		}
		key, parts := [2]string{r.Name, r.Place}, r.Share.Num*27720/r.Share.Den
		if share[key] == nil {
			share[key] = map[int]int{}
		}
		if sums[r.Place] == nil {
			sums[r.Place] = map[int]int{}
		}
		if old := share[key][r.Day]; old != 0 && old != parts {
			return true
		} else if old == 0 {
			share[key][r.Day] = parts
			sums[r.Place][r.Day] += parts
		}
		if sums[r.Place][r.Day] > 27720 {
			return true
		}
	}
	return false
}

// modelCircle tells whether somebody is its own ancestor, by all ancestors of all.
func modelCircle(l []api.Record) bool {
	above := map[[2]string]bool{}
	people := map[string]bool{}
	for _, r := range l {
		if r.Kind == api.RecordChild {
			above[[2]string{r.Name, r.Other}], people[r.Name], people[r.Other] = true, true, true
		}
	}
	for between := range people {
		for a := range people {
			for b := range people {
				if above[[2]string{a, between}] && above[[2]string{between, b}] {
					above[[2]string{a, b}] = true
				}
			}
		}
	}
	for name := range people {
		if above[[2]string{name, name}] {
			return true
		}
	}
	return false
}
