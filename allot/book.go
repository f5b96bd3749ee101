package allot

import (
	"slices"

	"mortsafe/api"
)

const noDay = -1

// noSlot is what a funeral has that has none.
func noSlot() api.Slot { return api.Slot{Day: noDay} }

// booking is a funeral with its slot.
type booking struct {
	api.Funeral
	api.Slot
}

func bookings(l []api.Funeral, s []api.Slot) []booking {
	all := make([]booking, len(l))
	for i := range l {
		all[i] = booking{l[i], s[i]}
	}
	return all
}

// worksAt tells whether crews are used at a minute. Slots may be any here: only numbers that
// are in range are added, so that no sum is too great.
func (b booking) worksAt(day, minute int) bool {
	return b.Day == day && b.Minute <= minute+b.Dig && minute-b.Service < b.Minute
}

// digsAt tells whether a machine is used at a minute.
func (b booking) digsAt(day, minute int) bool {
	return b.Machine && b.worksAt(day, minute) && minute < b.Minute
}

// meets tells whether each of two services begins before the other one, with the pause
// behind it, ends.
func (b booking) meets(c booking, pause int) bool {
	return b.Day == c.Day && b.Chapel == c.Chapel &&
		b.Minute < c.Minute+c.Service+pause && c.Minute < b.Minute+b.Service+pause
}

// used returns how many crews and machines are used at a minute.
func used(l []booking, day, minute int) (crews, machines int) {
	for _, b := range l {
		if b.worksAt(day, minute) {
			crews += b.Crews
		}
		if b.digsAt(day, minute) {
			machines++
		}
	}
	return crews, machines
}

// isTooMuch tells whether more crews or machines are used on a day than a hall has. Only
// when one of the funerals begins, more of them are used than before.
func isTooMuch(h api.Hall, l []booking, day int) bool {
	return slices.ContainsFunc(l, func(b booking) bool {
		if b.Day != day {
			return false
		}
		crews, machines := used(l, day, b.Minute-b.Dig)
		return crews > h.Crews || machines > h.Machines
	})
}

// lastBreaks returns the first error of the last one of some bookings, of which those before
// it have none.
func lastBreaks(h api.Hall, l []booking) api.Errno {
	last := len(l) - 1
	b := l[last]
	if b.Day == noDay {
		return api.OK
	}
	if !isDay(b.Day) || !isMinute(b.Minute) || !isFromTo(b.Chapel, 0, h.Chapels-1) {
		return api.ErrRange
	}
	open := openOn(h, b.Day)
	meetsIt := func(c booking) bool { return b.meets(c, h.Pause) }
	switch {
	case b.Day < b.From:
		return api.ErrEarly
	case b.Day > b.Until:
		return api.ErrLate
	case open == closed() || b.Minute-b.Dig < open[0] || b.Minute+b.Service > open[1]:
		return api.ErrState
	case slices.ContainsFunc(l[:last], meetsIt):
		return api.ErrBusy
	case isTooMuch(h, l, b.Day):
		return api.ErrStock
	}
	return api.OK
}

// Accept returns -1 if slots are right, or the first funeral that breaks a rule.
func Accept(h api.Hall, l []api.Funeral, s []api.Slot) (int, api.Errno) {
	if e := firstError(CheckFunerals(h, l), errorIf(len(s) != len(l), api.ErrShape)); e != api.OK {
		return 0, e
	}
	all := bookings(l, s)
	for i := range all {
		if e := lastBreaks(h, all[:i+1]); e != api.OK {
			return i, e
		}
	}
	return -1, api.OK
}

// Earliest returns the earliest slot for one more funeral.
func Earliest(h api.Hall, l []api.Funeral, s []api.Slot, f api.Funeral) (api.Slot, api.Errno) {
	// Of a list that is too long anyway, no more is copied than what shows it.
	all := slices.Concat(l[:min(len(l), api.MaxFunerals)], []api.Funeral{f})
	if e := CheckFunerals(h, all); e != api.OK {
		return api.Slot{}, e
	}
	if _, e := Accept(h, l, s); e != api.OK {
		return api.Slot{}, e
	}
	slot := earliest(h, append(bookings(l, s), booking{Funeral: f}))
	if slot == noSlot() {
		return api.Slot{}, api.ErrNone
	}
	return slot, api.OK
}

// earliest gives the last one of some bookings the earliest slot, if there is one; it returns
// the slot.
func earliest(h api.Hall, l []booking) api.Slot {
	b := &l[len(l)-1]
	for b.Day = b.From; b.Day <= b.Until; b.Day++ {
		open := openOn(h, b.Day)
		for b.Minute = open[0] + b.Dig; b.Minute+b.Service <= open[1]; b.Minute++ {
			for b.Chapel = 0; b.Chapel < h.Chapels; b.Chapel++ {
				if lastBreaks(h, l) == api.OK {
					return b.Slot
				}
			}
		}
	}
	b.Slot = noSlot()
	return b.Slot
}

// Book gives funeral by funeral the earliest slot.
func Book(h api.Hall, l []api.Funeral) ([]api.Slot, api.Errno) {
	if e := CheckFunerals(h, l); e != api.OK {
		return nil, e
	}
	slots := make([]api.Slot, len(l))
	all := bookings(l, slots)
	for i := range all {
		slots[i] = earliest(h, all[:i+1])
	}
	return slots, api.OK
}

// CrewsAt returns how many crews are used at a minute.
func CrewsAt(h api.Hall, l []api.Funeral, s []api.Slot, day, minute int) (int, api.Errno) {
	if e := firstError(
		CheckFunerals(h, l),
		errorIf(len(s) != len(l), api.ErrShape),
		errorIf(!isDay(day) || !isMinute(minute), api.ErrRange),
	); e != api.OK {
		return 0, e
	}
	crews, _ := used(bookings(l, s), day, minute)
	return crews, api.OK
}

// DaysNeeded returns a lower bound of the number of days that all funerals take.
func DaysNeeded(h api.Hall, l []api.Funeral) (int, api.Errno) {
	if e := CheckFunerals(h, l); e != api.OK || len(l) == 0 {
		return 0, e
	}
	longest := 0
	for _, open := range h.Open {
		longest = max(longest, open[1]-open[0])
	}
	if longest == 0 {
		return 0, api.ErrNone
	}
	services, work, digging := 0, 0, 0
	for _, f := range l {
		services += f.Service + h.Pause
		work += f.Crews * (f.Dig + f.Service)
		if f.Machine {
			digging += f.Dig
		}
	}
	return max(
		quotient(services, h.Chapels*(longest+h.Pause)),
		quotient(work, h.Crews*longest),
		quotient(digging, h.Machines*longest),
	), api.OK
}

// quotient returns a quotient rounded up; by is 0 only for the machines of a hall that has
// none, which nothing uses.
func quotient(n, by int) int {
	if n == 0 {
		return 0
	}
	return (n + by - 1) / by
}
