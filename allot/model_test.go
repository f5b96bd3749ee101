package allot_test

import (
	"math/rand"
	"slices"

	"mortsafe/api"
)

// This file says again what chapter 7 says, slowly: all allotments and covers one by one, and
// halls minute by minute.

func modelSuits(w api.Wish, v api.Vacancy) bool {
	switch {
	case w.Kind != v.Kind, w.Day < v.From:
		return false
	case v.Family != "" && w.Family != v.Family:
		return false
	case w.Section != "" && w.Section != v.Section:
		return false
	}
	return true
}

// modelAllotments returns all right allotments in the order of lists, -1 behind the vacancies.
func modelAllotments(w []api.Wish, v []api.Vacancy) [][]int {
	if len(w) == 0 {
		return [][]int{{}}
	}
	var l [][]int
	for j := range v {
		if modelSuits(w[0], v[j]) && v[j].Room > 0 {
			fewer := slices.Clone(v)
			fewer[j].Room--
			for _, a := range modelAllotments(w[1:], fewer) {
				l = append(l, with([]int{j}, a...))
			}
		}
	}
	for _, a := range modelAllotments(w[1:], v) {
		l = append(l, with([]int{-1}, a...))
	}
	return l
}

// modelPlaced counts the wishes that are placed.
func modelPlaced(a []int) int { return len(a) - len(modelPlacesOf(a, -1)) }

// modelPlacesOf returns the wishes that are at a vacancy.
func modelPlacesOf(a []int, j int) []int {
	var l []int
	for i := range a {
		if a[i] == j {
			l = append(l, i)
		}
	}
	return l
}

// modelLeastWeight returns the least weight of all covers.
func modelLeastWeight(w []api.Wish, v []api.Vacancy) int {
	least := len(w)
	for set := range 1 << len(v) {
		weight := 0
		for j := range v {
			if set>>j&1 == 1 {
				weight += v[j].Room
			}
		}
		for i := range w { // with these vacancies these wishes have to be in the cover
			for j := range v {
				if set>>j&1 == 0 && modelSuits(w[i], v[j]) {
					weight++
					break
				}
			}
		}
		least = min(least, weight)
	}
	return least
}

// modelInOrder gives wish by wish what is left.
func modelInOrder(w []api.Wish, v []api.Vacancy) []int {
	var a []int
	for i := range w {
		at := -1
		for j := len(v) - 1; j >= 0; j-- {
			if modelSuits(w[i], v[j]) && len(modelPlacesOf(a, j)) < v[j].Room {
				at = j
			}
		}
		a = append(a, at)
	}
	return a
}

// lastOfModel is a minute behind the ones that the model looks at; the halls and slots of
// random tests are before it.
const lastOfModel = 400

// modelUse returns how many crews and machines, and which chapels, are used in each minute of
// a day; a chapel also in the pause behind a service.
func modelUse(h api.Hall, l []api.Funeral, s []api.Slot, day int) (crews, machines [lastOfModel]int, chapels [6][lastOfModel]int) {
	for i, f := range l {
		if s[i].Day != day {
			continue
		}
		for m := range lastOfModel {
			if s[i].Minute-f.Dig <= m && m < s[i].Minute+f.Service {
				crews[m] += f.Crews
			}
			if f.Machine && s[i].Minute-f.Dig <= m && m < s[i].Minute {
				machines[m]++
			}
			if s[i].Minute <= m && m < s[i].Minute+f.Service+h.Pause {
				chapels[s[i].Chapel][m]++
			}
		}
	}
	return crews, machines, chapels
}

func modelOpen(h api.Hall, day int) [2]int {
	if slices.Contains(h.Closed, day) {
		return [2]int{}
	}
	return h.Open[(day+2)%7] // day 0 is a Wednesday
}

// modelBreaks returns the first error of the last one of some funerals.
func modelBreaks(h api.Hall, l []api.Funeral, s []api.Slot) api.Errno {
	f, at := l[len(l)-1], s[len(l)-1]
	open := modelOpen(h, max(at.Day, 0))
	switch {
	case at.Day == -1:
		return api.OK
	case at.Day < 0, at.Day > 200000, at.Minute < 0, at.Minute > 1440, at.Chapel < 0, at.Chapel >= h.Chapels:
		return api.ErrRange
	case at.Day < f.From:
		return api.ErrEarly
	case at.Day > f.Until:
		return api.ErrLate
	case open[1] == 0, at.Minute-f.Dig < open[0], at.Minute+f.Service > open[1]:
		return api.ErrState
	}
	crews, machines, chapels := modelUse(h, l, s, at.Day)
	switch {
	case slices.Max(chapels[at.Chapel][:]) > 1:
		return api.ErrBusy
	case slices.Max(crews[:]) > h.Crews, slices.Max(machines[:]) > h.Machines:
		return api.ErrStock
	}
	return api.OK
}

func modelAccept(h api.Hall, l []api.Funeral, s []api.Slot) (int, api.Errno) {
	for i := range l {
		if e := modelBreaks(h, l[:i+1], s[:i+1]); e != api.OK {
			return i, e
		}
	}
	return -1, api.OK
}

// modelEarliest looks at all slots one by one for the last one of some funerals.
func modelEarliest(h api.Hall, l []api.Funeral, s []api.Slot) api.Slot {
	f := l[len(l)-1]
	for day := f.From; day <= f.Until; day++ {
		for minute := range lastOfModel {
			for chapel := range h.Chapels {
				at := slot(day, minute, chapel)
				if modelOpen(h, day)[1] >= minute+f.Service && modelBreaks(h, l, with(s, at)) == api.OK {
					return at
				}
			}
		}
	}
	return none()
}

// modelDays is the lower bound of days, found by trying them one by one.
func modelDays(h api.Hall, l []api.Funeral) int {
	longest, services, work, digging := 0, 0, 0, 0
	for _, open := range h.Open {
		longest = max(longest, open[1]-open[0])
	}
	for _, f := range l {
		services += f.Service + h.Pause
		work += f.Crews * (f.Dig + f.Service)
		if f.Machine {
			digging += f.Dig
		}
	}
	days := 0
	for services > days*h.Chapels*(longest+h.Pause) || work > days*h.Crews*longest || digging > days*h.Machines*longest {
		days++
	}
	return days
}

var someTexts = []string{"", "a", "b"}

// randomPlaces returns wishes and vacancies of which some suit.
func randomPlaces(r *rand.Rand, wishes, vacancies, room int) ([]api.Wish, []api.Vacancy) {
	kinds := 1 + r.Intn(5)/4
	w := repeat(wishes, func(i int) api.Wish {
		return api.Wish{Name: "w" + letters(i), Family: pickOne(r, someTexts), Section: pickOne(r, someTexts), Kind: r.Intn(kinds), Day: r.Intn(4)}
	})
	v := repeat(vacancies, func(i int) api.Vacancy {
		return api.Vacancy{Name: "v" + letters(i), Family: someTexts[r.Intn(5)*r.Intn(2)/2], Section: pickOne(r, someTexts[1:]), Kind: r.Intn(kinds), Room: r.Intn(room + 1), From: r.Intn(4)}
	})
	return w, v
}

// randomHall is a hall whose days are short.
func randomHall(r *rand.Rand, length int) api.Hall {
	h := api.Hall{Chapels: 1 + r.Intn(3), Crews: 1 + r.Intn(4), Machines: r.Intn(3), Pause: r.Intn(6)}
	for i := range h.Open {
		from := r.Intn(5)
		h.Open[i] = [2]int{from, from + 1 + r.Intn(length)}
		if r.Intn(4) == 0 {
			h.Open[i] = [2]int{}
		}
	}
	for day := range 8 {
		if r.Intn(6) == 0 {
			h.Closed = append(h.Closed, day)
		}
	}
	return h
}

func randomFunerals(r *rand.Rand, h api.Hall, n int) []api.Funeral {
	return repeat(n, func(i int) api.Funeral {
		f := api.Funeral{Name: letters(i), From: r.Intn(4), Service: 1 + r.Intn(12), Dig: r.Intn(10), Crews: r.Intn(h.Crews + 1)}
		f.Until, f.Machine = f.From+r.Intn(4), h.Machines > 0 && r.Intn(2) == 0
		return f
	})
}
