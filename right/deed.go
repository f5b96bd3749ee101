package right

import (
	"slices"

	"mortsafe/api"
)

const mostYears = 99

// CheckDeed tells whether a deed is right by itself.
func CheckDeed(d api.Deed) api.Errno {
	isRange := isDay(d.Day) && isFromTo(d.Class, api.ClassExclusive, api.ClassCommon) && isFromTo(d.Years, 0, mostYears)
	e := firstError(
		errorIf(!isFromTo(d.Kind, api.DeedGrant, api.DeedDeath), api.ErrKind),
		errorIf(!isRange, api.ErrRange),
		errorIf(len(d.To) > api.MaxHeirs, api.ErrLarge),
	)
	if e != api.OK {
		return e
	}
	return firstError(
		errorIf(!areNamesOrEmpty(d.Place, d.From), api.ErrName),
		checkNames(namesOf(d.To)...),
		errorIf(!isOfKind(d), api.ErrForm),
	)
}

func namesOf(parts []api.Part) []string {
	var names []string
	for _, p := range parts {
		names = append(names, p.Name)
	}
	return names
}

// isOfKind tells whether the fields of a deed are those of its kind.
func isOfKind(d api.Deed) bool {
	return (d.Place != "") == hasPlace(d.Kind) &&
		(d.From != "") == hasFrom(d.Kind) &&
		(d.Class == 0 || d.Kind == api.DeedGrant) &&
		hasRightYears(d) && hasRightParts(d) && !namesTwice(d)
}

func hasPlace(kind int) bool {
	return kind == api.DeedGrant || kind == api.DeedTransfer || kind == api.DeedSurrender || kind == api.DeedRenewal
}

func hasFrom(kind int) bool { return kind != api.DeedGrant && kind != api.DeedRenewal }

func hasRightYears(d api.Deed) bool {
	switch d.Kind {
	case api.DeedGrant:
		return d.Years != 0 || d.Class != api.ClassTerm
	case api.DeedRenewal:
		return d.Years != 0
	}
	return d.Years == 0
}

func hasRightParts(d api.Deed) bool {
	switch d.Kind {
	case api.DeedGrant:
		return haveFractions(d.To) && total(d.To) == whole
	case api.DeedTransfer, api.DeedWill:
		return len(d.To) > 0 && haveFractions(d.To) && compareFracs(total(d.To), whole) <= 0
	case api.DeedRenounce, api.DeedChild, api.DeedMarriage:
		return len(d.To) == 1 && d.To[0].Share == api.Frac{}
	}
	return len(d.To) == 0
}

// haveFractions tells whether the shares of all parts are fractions of a deed above 0.
func haveFractions(parts []api.Part) bool {
	isNone := func(p api.Part) bool { return !isFraction(p.Share, finest) || p.Share == none }
	return !slices.ContainsFunc(parts, isNone)
}

// namesTwice tells whether two parts of a deed, or a part and From, are the same person.
func namesTwice(d api.Deed) bool {
	names := append(namesOf(d.To), d.From)
	slices.Sort(names)
	return len(slices.Compact(slices.Clone(names))) < len(names)
}
