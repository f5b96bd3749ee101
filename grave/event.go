package grave

import "mortsafe/api"

func isBurial(kind int) bool { return kind == api.Bury || kind == api.Rebury }

func hasLevel(kind int) bool { return isBurial(kind) || kind == api.Lower }

func hasOrder(kind int) bool { return kind == api.Exhume || kind == api.Lower }

// CheckEvent tells whether an event is right by itself.
func CheckEvent(e api.Event) api.Errno {
	return firstError(
		checkDay(e.Day),
		errorIf(!isFromTo(e.Kind, api.Bury, api.Gather), api.ErrKind),
		checkName(e.Remain),
		errorIf(isBurial(e.Kind) && !isName(e.Site), api.ErrName),
		errorIf(hasLevel(e.Kind) && !isFromTo(e.Level, 0, api.MaxLevels-1), api.ErrRange),
		errorIf(isBurial(e.Kind) && checkContainer(e.Container) != api.OK, api.ErrRange),
		errorIf(hasFurther(e), api.ErrForm),
	)
}

// hasFurther tells whether a field that has no meaning is filled in.
func hasFurther(e api.Event) bool {
	return !isBurial(e.Kind) && (e.Site != "" || e.Container != 0) ||
		!hasLevel(e.Kind) && e.Level != 0 ||
		!hasOrder(e.Kind) && e.Order
}
