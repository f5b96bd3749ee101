package person

import "mortsafe/api"

// What the parts of a score are made of.
const (
	sameName   = 60  // the name without a change
	nameChange = 20  // taken off for each change
	near       = 30  // short ranges with a common day
	together   = 10  // longer ranges with a common day
	apart      = -20 // ranges without a common day
	farApart   = -100
	shortRange = 400 // days
	yearDays   = 365
)

// CheckNotes returns the error of entries.
func CheckNotes(l []api.Note) api.Errno {
	if len(l) > api.MaxNotes {
		return api.ErrLarge
	}
	for _, n := range l {
		if e := checkNote(n); e != api.OK {
			return e
		}
	}
	return api.OK
}

func checkNote(n api.Note) api.Errno {
	return firstError(
		CheckName(n.Name),
		errorIf(!hasDays(n.Born) || !hasDays(n.Died), api.ErrRange),
		errorIf(!ascends(n.Born) || !ascends(n.Died), api.ErrOrder),
		errorIf(n.Died.To < n.Born.From, api.ErrClash),
	)
}

func hasDays(s api.Span) bool {
	return isFromTo(s.From, 0, api.MaxDay) && isFromTo(s.To, 0, api.MaxDay)
}

func ascends(s api.Span) bool { return s.From <= s.To }

// overlap returns the days that two ranges have in common; it does not ascend if
// there are none.
func overlap(a, b api.Span) api.Span {
	return api.Span{From: max(a.From, b.From), To: min(a.To, b.To)}
}

// isShort tells whether a range has few enough days to say much.
func isShort(s api.Span) bool { return s.To-s.From < shortRange }

// Score returns the score of two entries, and its parts: name, birth, death.
func Score(a, b api.Note) (int, [3]int, api.Errno) {
	if e := firstError(checkNote(a), checkNote(b)); e != api.OK {
		return 0, [3]int{}, e
	}
	parts := scoreParts(a, b)
	return sum(parts[:]...), parts, api.OK
}

func scoreParts(a, b api.Note) [3]int {
	changes, _ := Distance(a.Name, b.Name)
	return [3]int{sameName - nameChange*changes, rangeScore(a.Born, b.Born), rangeScore(a.Died, b.Died)}
}

func rangeScore(a, b api.Span) int {
	common := overlap(a, b)
	switch {
	case !ascends(common):
		gap := common.From - common.To
		return max(apart-gap/yearDays, farApart)
	case isShort(a) && isShort(b):
		return near
	}
	return together
}
