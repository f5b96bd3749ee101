package right

import "mortsafe/api"

// finest is the greatest denominator of a fraction of a deed or a law.
const finest = 16

// CheckLaws returns the error of laws.
func CheckLaws(l []api.Law) api.Errno {
	if len(l) > api.MaxLaws {
		return api.ErrLarge
	}
	for i, law := range l {
		e := firstError(
			checkDay(law.From),
			errorIf(!isFraction(law.Spouse, finest), api.ErrForm),
			errorIf(i > 0 && law.From <= l[i-1].From, api.ErrOrder),
		)
		if e != api.OK {
			return e
		}
	}
	return api.OK
}

// LawOn returns the law of a day.
func LawOn(l []api.Law, day int) (api.Law, api.Errno) {
	if e := firstError(CheckLaws(l), checkDay(day)); e != api.OK {
		return api.Law{}, e
	}
	return lawOn(l, day), api.OK
}

func lawOn(l []api.Law, day int) api.Law {
	last := api.Law{Spouse: none}
	for _, law := range l {
		if law.From <= day {
			last = law
		}
	}
	return last
}
