package allot

import "mortsafe/api"

const maxKind = 3 // as of sites

// CheckWishes tells whether wishes are right.
func CheckWishes(l []api.Wish) api.Errno {
	earlier := names{}
	return checkEach(l, api.MaxWishes, func(w api.Wish) api.Errno {
		return firstError(
			errorIf(!isName(w.Name) || !isNameOrEmpty(w.Family) || !isNameOrEmpty(w.Section), api.ErrName),
			earlier.add(w.Name),
			errorIf(!isFromTo(w.Kind, 0, maxKind) || !isDay(w.Day), api.ErrRange),
		)
	})
}

// CheckVacancies tells whether vacancies are right.
func CheckVacancies(l []api.Vacancy) api.Errno {
	earlier := names{}
	return checkEach(l, api.MaxVacancies, func(v api.Vacancy) api.Errno {
		return firstError(
			errorIf(!isName(v.Name) || !isName(v.Section) || !isNameOrEmpty(v.Family), api.ErrName),
			earlier.add(v.Name),
			errorIf(!isFromTo(v.Kind, 0, maxKind) || !isFromTo(v.Room, 0, api.MaxRoom) || !isDay(v.From), api.ErrRange),
		)
	})
}

func check(w []api.Wish, v []api.Vacancy) api.Errno {
	return firstError(CheckWishes(w), CheckVacancies(v))
}

// Suits tells whether a vacancy suits a wish.
func Suits(w api.Wish, v api.Vacancy) (bool, api.Errno) {
	if e := check([]api.Wish{w}, []api.Vacancy{v}); e != api.OK {
		return false, e
	}
	return suits(w, v), api.OK
}

func suits(w api.Wish, v api.Vacancy) bool {
	mayBeThere := v.Family == "" || v.Family == w.Family
	isWhereAsked := w.Section == "" || w.Section == v.Section
	return v.Kind == w.Kind && v.From <= w.Day && mayBeThere && isWhereAsked
}

// Pairs returns for each wish the vacancies that suit it.
func Pairs(w []api.Wish, v []api.Vacancy) ([][]int, api.Errno) {
	if e := check(w, v); e != api.OK {
		return nil, e
	}
	return pairs(w, v), api.OK
}

func pairs(w []api.Wish, v []api.Vacancy) [][]int {
	l := make([][]int, len(w))
	for i := range w {
		for j := range v {
			if suits(w[i], v[j]) {
				l[i] = append(l[i], j)
			}
		}
	}
	return l
}

// rooms returns the room of each vacancy.
func rooms(v []api.Vacancy) []int {
	l := make([]int, len(v))
	for j := range v {
		l[j] = v[j].Room
	}
	return l
}
