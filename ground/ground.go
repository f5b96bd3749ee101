// Package ground is chapter 1: plots as polygons of whole coordinates, heights
// from levelled differences, and concordances of old and new numbers of places.
// See shared/doc/01-ground.md.
package ground

import "mortsafe/api"

func sum(terms ...int) int {
	total := 0
	for _, t := range terms {
		total += t
	}
	return total
}

// greaterInSize reports whether a number is greater in size than most. It does not
// compute the size, because that of the least int is no int.
func greaterInSize(n, most int) bool {
	return n < -most || n > most
}

// firstError returns the first error of some checks, told in the order in which
// the document lists them.
func firstError(errors ...api.Errno) api.Errno {
	for _, e := range errors {
		if e != api.OK {
			return e
		}
	}
	return api.OK
}
