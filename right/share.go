package right

import (
	"cmp"
	"maps"
	"slices"

	"mortsafe/api"
)

var (
	none  = api.Frac{Num: 0, Den: 1}
	whole = api.Frac{Num: 1, Den: 1}
)

// gcd returns the greatest common divisor of two numbers that are not negative.
func gcd(a, b int) int {
	for a != 0 {
		a, b = b%a, a
	}
	return b
}

// lowest returns a fraction in lowest terms; num is not negative, and den above 0.
func lowest(num, den int) api.Frac {
	g := gcd(num, den)
	return api.Frac{Num: num / g, Den: den / g}
}

// The sums and products of fractions up to 1 fit an int as long as the denominators of
// both are at most api.MaxShare.

func plus(a, b api.Frac) api.Frac { return lowest(a.Num*b.Den+b.Num*a.Den, a.Den*b.Den) }

// minus takes a fraction away from one that is not less.
func minus(a, b api.Frac) api.Frac { return lowest(a.Num*b.Den-b.Num*a.Den, a.Den*b.Den) }

func times(a, b api.Frac) api.Frac { return lowest(a.Num*b.Num, a.Den*b.Den) }

func compareFracs(a, b api.Frac) int { return cmp.Compare(a.Num*b.Den, b.Num*a.Den) }

// isFraction tells whether f is a fraction from 0 to 1 in lowest terms with a
// denominator from 1 to most.
func isFraction(f api.Frac, most int) bool {
	return isFromTo(f.Den, 1, most) && isFromTo(f.Num, 0, f.Den) && gcd(f.Num, f.Den) == 1
}

// isTooFine tells whether a fraction in lowest terms can be no share.
func isTooFine(f api.Frac) bool { return f.Den > api.MaxShare }

// total returns the sum of the fractions of a deed, or of records. Their denominators are
// at most 16, so that their least common multiple is small.
func total(parts []api.Part) api.Frac {
	sum := none
	for _, p := range parts {
		sum = plus(sum, p.Share)
	}
	return sum
}

// shares is what people have of a right or of an estate, each more than 0. Unknown heirs
// have the empty name.
type shares map[string]api.Frac

// of returns what a person has.
func (s shares) of(name string) api.Frac {
	if share, has := s[name]; has {
		return share
	}
	return none
}

// give adds a part to what a person has, unless a number on the way is too fine.
func (s shares) give(name string, part api.Frac) api.Errno {
	if part == none {
		return api.OK
	}
	if isTooFine(part) {
		return api.ErrLarge
	}
	sum := plus(s.of(name), part)
	if isTooFine(sum) {
		return api.ErrLarge
	}
	s[name] = sum
	return api.OK
}

// pass gives each part its fraction of what a person has, of which a fraction stays with
// it; together the fractions are 1.
func (s shares) pass(from string, to []api.Part, stays api.Frac) api.Errno {
	had := s.of(from)
	delete(s, from)
	if e := s.give(from, times(had, stays)); e != api.OK {
		return e
	}
	for _, p := range to {
		if e := s.give(p.Name, times(had, p.Share)); e != api.OK {
			return e
		}
	}
	return api.OK
}

// drop takes away what a person has; the others, if there are any, get it in proportion.
func (s shares) drop(from string) api.Errno {
	others := minus(whole, s.of(from))
	delete(s, from)
	for name, share := range s {
		s[name] = times(share, api.Frac{Num: others.Den, Den: others.Num})
		if isTooFine(s[name]) {
			return api.ErrLarge
		}
	}
	return api.OK
}

// parts returns what people have, ascending by name.
func (s shares) parts() []api.Part {
	var parts []api.Part
	for _, name := range slices.Sorted(maps.Keys(s)) {
		parts = append(parts, api.Part{Name: name, Share: s[name]})
	}
	return parts
}
