package person

import (
	"iter"
	"slices"

	"mortsafe/api"
)

// book is decisions on the entries 0 to entries-1, and which of them stand.
type book struct {
	entries   int
	decisions []api.Decision
	stands    []bool
}

// read returns the book of some decisions.
func read(n int, l []api.Decision) (*book, api.Errno) {
	b := &book{entries: n}
	e := firstError(
		errorIf(!isFromTo(n, 0, api.MaxNotes), api.ErrRange),
		errorIf(len(l) > api.MaxDecisions, api.ErrLarge),
	)
	if e != api.OK {
		return b, e
	}
	for _, d := range l {
		if e := b.errorOf(d); e != api.OK {
			return b, e
		}
		b.put(d)
	}
	return b, api.OK
}

// put writes a further decision, which has no error, into the book.
func (b *book) put(d api.Decision) {
	b.decisions = append(b.decisions, d)
	b.stands = append(b.stands, d.Kind != api.DecideWithdraw)
	if d.Kind == api.DecideWithdraw {
		b.stands[d.A] = false
	}
}

// errorOf returns the error of a further decision.
func (b *book) errorOf(d api.Decision) api.Errno {
	switch d.Kind {
	case api.DecideSame, api.DecideDifferent:
		return firstError(
			errorIf(!b.hasEntry(d.A) || !b.hasEntry(d.B), api.ErrMissing),
			errorIf(d.A == d.B, api.ErrForm),
		)
	case api.DecideWithdraw:
		return b.errorOfWithdrawal(d)
	}
	return api.ErrKind
}

func (b *book) errorOfWithdrawal(d api.Decision) api.Errno {
	if !b.hasDecision(d.A) {
		return api.ErrMissing
	}
	return firstError(
		errorIf(d.B != 0, api.ErrForm),
		errorIf(b.decisions[d.A].Kind == api.DecideWithdraw, api.ErrKind),
		errorIf(!b.stands[d.A], api.ErrState),
	)
}

func (b *book) hasEntry(n int) bool { return isNumberOf(n, b.entries) }

func (b *book) hasDecision(n int) bool { return isNumberOf(n, len(b.decisions)) }

// standing yields the numbers of the standing decisions of a kind, ascending.
func (b *book) standing(kind int) iter.Seq[int] {
	return func(yield func(int) bool) {
		for i, d := range b.decisions {
			if b.stands[i] && d.Kind == kind && !yield(i) {
				return
			}
		}
	}
}

// CheckDecisions returns the error of decisions on n entries.
func CheckDecisions(n int, l []api.Decision) api.Errno {
	_, e := read(n, l)
	return e
}

// Standing returns the numbers of the standing decisions.
func Standing(n int, l []api.Decision) ([]int, api.Errno) {
	b, e := read(n, l)
	if e != api.OK {
		return nil, e
	}
	var numbers []int
	for i, stands := range b.stands {
		if stands {
			numbers = append(numbers, i)
		}
	}
	return numbers, api.OK
}

// Decide returns the decisions with another one behind them.
func Decide(n int, l []api.Decision, d api.Decision) ([]api.Decision, api.Errno) {
	if e := CheckDecisions(n, l); e != api.OK {
		return nil, e
	}
	longer := append(slices.Clone(l), d)
	conflicts, wrong := Conflicts(n, longer)
	if e := firstError(wrong, errorIf(len(conflicts) > 0, api.ErrClash)); e != api.OK {
		return nil, e
	}
	return longer, api.OK
}
