package ground

import (
	"cmp"
	"slices"

	"mortsafe/api"
)

// The kinds of parts of a concordance.
const (
	kindOne = iota
	kindSplit
	kindJoined
	kindSeveral
)

// CheckNumbers tells whether lines are a concordance.
func CheckNumbers(l []api.Renumber) api.Errno {
	if len(l) > api.MaxRenumbers {
		return api.ErrLarge
	}
	for i, r := range l {
		if !isName(r.Old) || !isName(r.New) {
			return api.ErrName
		}
		if i > 0 && compareLines(l[i-1], r) >= 0 {
			return api.ErrOrder
		}
	}
	return api.OK
}

func compareLines(a, b api.Renumber) int {
	return cmp.Or(cmp.Compare(a.Old, b.Old), cmp.Compare(a.New, b.New))
}

// newOnes returns the new numbers of each old one.
func newOnes(l []api.Renumber) map[string][]string {
	names := map[string][]string{}
	for _, r := range l {
		names[r.Old] = append(names[r.Old], r.New)
	}
	return names
}

// Compose returns the lines from old numbers of a to new numbers of b, by numbers
// that are new in a and old in b.
func Compose(a, b []api.Renumber) ([]api.Renumber, api.Errno) {
	if e := firstError(CheckNumbers(a), CheckNumbers(b)); e != api.OK {
		return nil, e
	}
	further := newOnes(b)
	var l []api.Renumber
	for _, r := range a {
		for _, name := range further[r.New] {
			l = append(l, api.Renumber{Old: r.Old, New: name})
		}
	}
	slices.SortFunc(l, compareLines)
	l = slices.Compact(l)
	if len(l) > api.MaxRenumbers {
		return nil, api.ErrLarge
	}
	return l, api.OK
}

// Turn returns the lines with new numbers as old ones.
func Turn(l []api.Renumber) ([]api.Renumber, api.Errno) {
	if e := CheckNumbers(l); e != api.OK {
		return nil, e
	}
	turned := make([]api.Renumber, len(l))
	for i, r := range l {
		turned[i] = api.Renumber{Old: r.New, New: r.Old}
	}
	slices.SortFunc(turned, compareLines)
	return turned, api.OK
}

// Images returns the new numbers of some old ones, ascending.
func Images(l []api.Renumber, names []string) ([]string, api.Errno) {
	if e := CheckNumbers(l); e != api.OK {
		return nil, e
	}
	if len(names) > api.MaxRenumbers {
		return nil, api.ErrLarge
	}
	found := newOnes(l)
	var images []string
	for _, name := range names {
		if !isName(name) {
			return nil, api.ErrName
		}
		if len(found[name]) == 0 {
			return nil, api.ErrMissing
		}
		images = append(images, found[name]...)
	}
	return ascending(images), api.OK
}

// ascending sorts names, and leaves each one once.
func ascending(names []string) []string {
	slices.Sort(names)
	return slices.Compact(names)
}

// leaders tells for each line of a concordance an earlier one of its part, or the
// line itself if it is the first one so far.
type leaders []int

func (l leaders) first(line int) int {
	for l[line] != line {
		line = l[line]
	}
	return line
}

func (l leaders) join(a, b int) {
	a, b = l.first(a), l.first(b)
	l[max(a, b)] = min(a, b)
}

// joinSame joins each line with the first one that has the same name.
func (l leaders) joinSame(lines []api.Renumber, name func(api.Renumber) string) {
	found := map[string]int{}
	for i, r := range lines {
		earlier, is := found[name(r)]
		if !is {
			earlier = i
			found[name(r)] = i
		}
		l.join(earlier, i)
	}
}

// Parts returns the parts of a concordance, by their first old numbers.
func Parts(l []api.Renumber) ([]api.Renumbering, api.Errno) {
	if e := CheckNumbers(l); e != api.OK {
		return nil, e
	}
	led := make(leaders, len(l))
	for i := range led {
		led[i] = i
	}
	led.joinSame(l, func(r api.Renumber) string { return r.Old })
	led.joinSame(l, func(r api.Renumber) string { return r.New })
	return collect(l, led), api.OK
}

// collect gathers the numbers of each part. The parts come out in their order,
// because the first line of each one has its first old number.
func collect(l []api.Renumber, led leaders) []api.Renumbering {
	var parts []api.Renumbering
	number := make([]int, len(l))
	for i, r := range l {
		first := led.first(i)
		if first == i {
			number[i] = len(parts)
			parts = append(parts, api.Renumbering{})
		}
		p := &parts[number[first]]
		p.Old = append(p.Old, r.Old)
		p.New = append(p.New, r.New)
	}
	for i, p := range parts {
		parts[i] = api.Renumbering{Old: ascending(p.Old), New: ascending(p.New)}
	}
	return parts
}

// KindOf returns 0 for a part with one old and one new number, 1 for a split, 2 for
// a part that was joined, and 3 for one with several of both.
func KindOf(r api.Renumbering) (int, api.Errno) {
	for _, l := range [][]string{r.Old, r.New} {
		if len(l) < 1 || len(l) > api.MaxRenumbers {
			return 0, api.ErrShape
		}
	}
	if !areNames(r.Old) || !areNames(r.New) {
		return 0, api.ErrName
	}
	if !ascends(r.Old) || !ascends(r.New) {
		return 0, api.ErrOrder
	}
	switch {
	case len(r.Old) > 1 && len(r.New) > 1:
		return kindSeveral, api.OK
	case len(r.Old) > 1:
		return kindJoined, api.OK
	case len(r.New) > 1:
		return kindSplit, api.OK
	}
	return kindOne, api.OK
}

func areNames(l []string) bool {
	for _, s := range l {
		if !isName(s) {
			return false
		}
	}
	return true
}

// ascends tells strictly, unlike slices.IsSorted.
func ascends(l []string) bool {
	for i := 1; i < len(l); i++ {
		if l[i-1] >= l[i] {
			return false
		}
	}
	return true
}
