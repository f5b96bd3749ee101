package ground

import (
	"slices"

	"mortsafe/api"
)

// CheckSection tells whether a section and its plots are right. Beside an error of
// a plot it returns the plot's number twice, beside api.ErrClash the numbers of
// the two plots that overlap.
func CheckSection(s api.Section) ([2]int, api.Errno) {
	if !isName(s.Name) {
		return [2]int{}, api.ErrName
	}
	if e := CheckPolygon(s.Corners); e != api.OK {
		return [2]int{}, e
	}
	if len(s.Plots) > api.MaxPlots {
		return [2]int{}, api.ErrLarge
	}
	return checkPlots(polygonOf(s.Corners), s.Plots)
}

func checkPlots(section polygon, plots []api.Plot) ([2]int, api.Errno) {
	named := map[string]bool{}
	var earlier []polygon
	for i, p := range plots {
		if e := errorOfPlot(p, named, section); e != api.OK {
			return [2]int{i, i}, e
		}
		corners := polygonOf(p.Corners)
		if k := slices.IndexFunc(earlier, corners.overlaps); k >= 0 {
			return [2]int{k, i}, api.ErrClash
		}
		named[p.Name] = true
		earlier = append(earlier, corners)
	}
	return [2]int{}, api.OK
}

// errorOfPlot returns the error of a plot but for overlaps; named are the names of
// the earlier plots.
func errorOfPlot(p api.Plot, named map[string]bool, section polygon) api.Errno {
	if !isName(p.Name) {
		return api.ErrName
	}
	if named[p.Name] {
		return api.ErrExists
	}
	if e := CheckPolygon(p.Corners); e != api.OK {
		return e
	}
	if !polygonOf(p.Corners).within(section) {
		return api.ErrRange
	}
	return api.OK
}

// Gap returns the doubled area of a section that no plot has.
func Gap(s api.Section) (int, api.Errno) {
	if _, e := CheckSection(s); e != api.OK {
		return 0, e
	}
	areas := []int{polygonOf(s.Corners).area()}
	for _, p := range s.Plots {
		areas = append(areas, -polygonOf(p.Corners).area())
	}
	return sum(areas...), api.OK
}

// Neighbours returns the numbers of the plots that have a common border with a
// plot, ascending.
func Neighbours(s api.Section, plot int) ([]int, api.Errno) {
	if _, e := CheckSection(s); e != api.OK {
		return nil, e
	}
	if plot < 0 || plot >= len(s.Plots) {
		return nil, api.ErrMissing
	}
	corners := polygonOf(s.Plots[plot].Corners)
	var l []int
	for i, p := range s.Plots {
		if i != plot && len(corners.common(polygonOf(p.Corners))) > 0 {
			l = append(l, i)
		}
	}
	return l, api.OK
}

// PlotAt returns the number of the first plot in which a point is, or on whose
// border.
func PlotAt(s api.Section, q api.Point) (int, api.Errno) {
	if _, e := CheckSection(s); e != api.OK {
		return 0, e
	}
	if e := errorOfPoint(q); e != api.OK {
		return 0, e
	}
	for i, p := range s.Plots {
		if polygonOf(p.Corners).where(placeOf(q)) != outside {
			return i, api.OK
		}
	}
	return 0, api.ErrNone
}
