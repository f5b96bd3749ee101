package person_test

import (
	"math/rand"
	"slices"
	"strings"

	"mortsafe/api"
)

// This file says once more, and in other ways, what the chapter promises; the tests of
// the whole compare it with the package.

// modelText writes letters as a sign.
func modelText(letters string) string {
	switch len(letters) {
	case 1:
		return letters
	case len(alphabet):
		return "?"
	}
	return "[" + letters + "]"
}

func modelTexts(signs []string) string {
	text := ""
	for _, letters := range signs {
		text += modelText(letters)
	}
	return text
}

// modelReadings puts readings together from behind.
func modelReadings(signs []string) []string {
	if len(signs) == 0 {
		return []string{""}
	}
	var all []string
	for _, rest := range modelReadings(signs[1:]) {
		for _, letter := range signs[0] {
			all = append(all, string(letter)+rest)
		}
	}
	slices.Sort(all)
	return all
}

// modelCommon returns the letters that both names have, and whether there are any.
func modelCommon(a, b []string) ([]string, bool) {
	if len(a) != len(b) {
		return nil, false
	}
	var common []string
	for i := range a {
		both := strings.Map(func(r rune) rune {
			if strings.ContainsRune(b[i], r) {
				return r
			}
			return -1
		}, a[i])
		if both == "" {
			return nil, false
		}
		common = append(common, both)
	}
	return common, true
}

// modelChanges is the distance of two texts of letters.
func modelChanges(a, b string) int {
	if a == "" || b == "" {
		return len(a) + len(b)
	}
	if a[0] == b[0] {
		return modelChanges(a[1:], b[1:])
	}
	return 1 + min(modelChanges(a[1:], b[1:]), modelChanges(a[1:], b), modelChanges(a, b[1:]))
}

// modelDistance looks at all readings.
func modelDistance(a, b []string) int {
	least := len(a) + len(b)
	for _, x := range modelReadings(a) {
		for _, y := range modelReadings(b) {
			least = min(least, modelChanges(x, y))
		}
	}
	return least
}

// modelRange scores two ranges day by day.
func modelRange(a, b api.Span) int {
	if a.From > b.From {
		a, b = b, a
	}
	if b.From > a.To {
		part := -20
		for day := a.To + 365; day <= b.From; day += 365 {
			part--
		}
		return max(part, -100)
	}
	if a.To-a.From+1 <= 400 && b.To-b.From+1 <= 400 {
		return 30
	}
	return 10
}

// modelLinks calls what with all links of two lists whose gains are above zero.
func modelLinks(gains [][]int, width int, what func(pairs [][2]int, value int)) {
	var further func(row int, pairs [][2]int, value int)
	further = func(row int, pairs [][2]int, value int) {
		if row == len(gains) {
			what(pairs, value)
			return
		}
		further(row+1, pairs, value)
		for k := range width {
			used := slices.ContainsFunc(pairs, func(p [2]int) bool { return p[1] == k })
			if !used && gains[row][k] > 0 {
				further(row+1, with(pairs, [2]int{row, k}), value+gains[row][k])
			}
		}
	}
	further(0, nil, 0)
}

// modelStanding returns the numbers of decisions that no later one withdraws.
func modelStanding(l []api.Decision) []int {
	var standing []int
	for i, d := range l {
		if d.Kind != api.DecideWithdraw && !slices.Contains(l[i+1:], withdraw(i)) {
			standing = append(standing, i)
		}
	}
	return standing
}

// unreachable is longer than every chain.
const unreachable = 1000

// modelSteps returns how many standing Same decisions lead from each entry to each one.
func modelSteps(n int, l []api.Decision) [][]int {
	steps := make([][]int, n)
	for i := range n {
		steps[i] = repeat(n, always(unreachable))
		steps[i][i] = 0
	}
	for _, number := range modelStanding(l) {
		if d := l[number]; d.Kind == api.DecideSame {
			steps[d.A][d.B], steps[d.B][d.A] = 1, 1
		}
	}
	for k := range n {
		for i := range n {
			for j := range n {
				steps[i][j] = min(steps[i][j], steps[i][k]+steps[k][j])
			}
		}
	}
	return steps
}

func modelClasses(steps [][]int) [][]int {
	var classes [][]int
	for _, row := range steps {
		var class []int
		for j, n := range row {
			if n < unreachable {
				class = append(class, j)
			}
		}
		if !slices.ContainsFunc(classes, func(c []int) bool { return slices.Equal(c, class) }) {
			classes = append(classes, class)
		}
	}
	return classes
}

// modelConflicts returns the conflicts, and the length of a shortest chain of them.
func modelConflicts(l []api.Decision, steps [][]int) ([]int, int) {
	var conflicts []int
	shortest := unreachable
	for _, number := range modelStanding(l) {
		if d := l[number]; d.Kind == api.DecideDifferent && steps[d.A][d.B] < unreachable {
			conflicts = append(conflicts, number)
			shortest = min(shortest, steps[d.A][d.B])
		}
	}
	return conflicts, shortest
}

// randomSign returns some letters, maybe none.
func randomSign(r *rand.Rand) string {
	letters := "-Aabc"
	switch r.Intn(12) {
	case 0:
		return alphabet
	case 1:
		letters = alphabet
	}
	some := ""
	for _, letter := range letters {
		if r.Intn(3) == 0 {
			some += string(letter)
		}
	}
	return some
}

// randomSigns returns the letters of the signs of a name; few says that it has few readings.
func randomSigns(r *rand.Rand, most int, few bool) []string {
	var signs []string
	for n := 1 + r.Intn(most); len(signs) < n; {
		s := randomSign(r)
		if s != "" && (!few || len(s) <= 3) {
			signs = append(signs, s)
		}
	}
	return signs
}

// randomSpan returns days that are not far from others, but for a few.
func randomSpan(r *rand.Rand, from int) api.Span {
	s := api.Span{From: from + r.Intn(500)}
	if r.Intn(4) == 0 {
		s.From += r.Intn(40000)
	}
	s.To = s.From + []int{0, 1, 100, 399, 400, 2000}[r.Intn(6)]
	return s
}

// randomNotes returns entries of which many have much in common.
func randomNotes(r *rand.Rand, n int) []api.Note {
	return repeat(n, func(int) api.Note {
		signs := []string{"M", "ai", "[ei]", "?", "r", "-"}
		name := strings.Join(signs[r.Intn(2):4+r.Intn(3)], "")
		return api.Note{Name: name, Born: randomSpan(r, 0), Died: randomSpan(r, 42500)}
	})
}

// randomDecisions returns decisions that have no error, on at least 2 entries.
func randomDecisions(r *rand.Rand, n, count int) []api.Decision {
	var l []api.Decision
	for len(l) < count {
		standing := modelStanding(l)
		a := r.Intn(n)
		b := (a + 1 + r.Intn(n-1)) % n
		switch {
		case r.Intn(3) == 0 && len(standing) > 0:
			l = append(l, withdraw(standing[r.Intn(len(standing))]))
		case r.Intn(3) == 0:
			l = append(l, different(a, b))
		default:
			l = append(l, same(a, b))
		}
	}
	return l
}
