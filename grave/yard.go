package grave

import (
	"slices"

	"mortsafe/api"
)

const (
	mostSoil  = 9
	mostDepth = 1000
	mostStep  = 300
	mostRest  = 100000
)

// CheckSite tells whether a site is right.
func CheckSite(s api.Site) api.Errno {
	return firstError(
		checkName(s.Name),
		errorIf(!isFromTo(s.Kind, api.SiteEarth, api.SiteScatter), api.ErrKind),
		checkRange(s.Soil, 0, mostSoil),
		checkRange(s.Depth, 0, mostDepth),
		checkRange(s.Step, 0, mostStep),
		checkRange(s.Room, 1, api.MaxLevels),
		checkForm(s),
	)
}

func checkForm(s api.Site) api.Errno {
	switch s.Kind {
	case api.SiteEarth:
		return errorIf(depthOf(s, s.Room-1) < 0, api.ErrForm)
	case api.SiteScatter:
		return errorIf(s.Depth != 0 || s.Step != 0 || s.Room != 1, api.ErrForm)
	}
	return errorIf(s.Depth != 0 || s.Step != 0, api.ErrForm)
}

// CheckYard tells whether sites, resting periods and covers are right.
func CheckYard(y api.Yard) api.Errno {
	return firstError(checkSites(y.Sites), checkRests(y.Rests), checkCovers(y.Covers))
}

func checkSites(l []api.Site) api.Errno {
	if len(l) > api.MaxSites {
		return api.ErrLarge
	}
	for i, s := range l {
		isSame := func(earlier api.Site) bool { return earlier.Name == s.Name }
		exists := errorIf(slices.ContainsFunc(l[:i], isSame), api.ErrExists)
		if e := firstError(CheckSite(s), exists); e != api.OK {
			return e
		}
	}
	return api.OK
}

func checkRests(l []api.Rest) api.Errno {
	if len(l) > api.MaxRests {
		return api.ErrLarge
	}
	for i, r := range l {
		isSame := func(earlier api.Rest) bool { return earlier.Soil == r.Soil && earlier.Container == r.Container }
		exists := errorIf(slices.ContainsFunc(l[:i], isSame), api.ErrExists)
		if e := firstError(checkRest(r), exists); e != api.OK {
			return e
		}
	}
	return api.OK
}

func checkRest(r api.Rest) api.Errno {
	return firstError(checkRange(r.Soil, 0, mostSoil), checkContainer(r.Container), checkRange(r.Days, 0, mostRest))
}

func checkCovers(depths [3]int) api.Errno {
	for _, depth := range depths {
		if e := checkRange(depth, 0, mostDepth); e != api.OK {
			return e
		}
	}
	return api.OK
}

func findSite(y api.Yard, name string) (api.Site, api.Errno) {
	i := slices.IndexFunc(y.Sites, func(s api.Site) bool { return s.Name == name })
	if i < 0 {
		return api.Site{}, api.ErrMissing
	}
	return y.Sites[i], api.OK
}

func checkLevel(s api.Site, level int) api.Errno { return checkRange(level, 0, s.Room-1) }

// RestOf returns the rest of a container at a site.
func RestOf(y api.Yard, site string, container int) (int, api.Errno) {
	s, missing := findSite(y, site)
	if e := firstError(CheckYard(y), missing, checkContainer(container)); e != api.OK {
		return 0, e
	}
	return restOf(y, s, container), api.OK
}

func restOf(y api.Yard, s api.Site, container int) int {
	for _, r := range y.Rests {
		if r.Soil == s.Soil && r.Container == container {
			return r.Days
		}
	}
	return 0
}

// DepthOf returns the depth of a level.
func DepthOf(y api.Yard, site string, level int) (int, api.Errno) {
	s, missing := findSite(y, site)
	if e := firstError(CheckYard(y), missing, checkLevel(s, level)); e != api.OK {
		return 0, e
	}
	return depthOf(s, level), api.OK
}

// depthOf needs no case for sites that are no graves: their numbers are 0.
func depthOf(s api.Site, level int) int { return s.Depth - s.Step*level }

// Takes tells whether a level takes a container.
func Takes(y api.Yard, site string, level, container int) (bool, api.Errno) {
	s, missing := findSite(y, site)
	if e := firstError(CheckYard(y), missing, checkLevel(s, level), checkContainer(container)); e != api.OK {
		return false, e
	}
	return takes(y, s, level, container), api.OK
}

func takes(y api.Yard, s api.Site, level, container int) bool {
	switch s.Kind {
	case api.SiteEarth:
		return container != api.Ashes && depthOf(s, level) >= y.Covers[container]
	case api.SiteVault:
		return container != api.Ashes
	case api.SiteNiche:
		return container == api.Urn
	}
	return container == api.Ashes
}
