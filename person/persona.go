package person

import "mortsafe/api"

// Persona returns the persona of a class of entries.
func Persona(l []api.Note, class []int) (api.Note, api.Errno) {
	if e := firstError(CheckNotes(l), errorIf(len(class) == 0, api.ErrShape)); e != api.OK {
		return api.Note{}, e
	}
	for i, entry := range class {
		if !isNumberOf(entry, len(l)) {
			return api.Note{}, api.ErrMissing
		}
		if i > 0 && entry <= class[i-1] {
			return api.Note{}, api.ErrOrder
		}
	}
	return persona(l, class)
}

// persona returns what the entries of a class, of which there is at least one, have in
// common. If they have no persona, this is no right entry: it has an empty name (behind
// which no common text is found either), or a range that does not ascend, or a death
// before the birth.
func persona(l []api.Note, class []int) (api.Note, api.Errno) {
	p := l[class[0]]
	for _, entry := range class[1:] {
		n := l[entry]
		p.Name, _ = Common(p.Name, n.Name)
		p.Born, p.Died = overlap(p.Born, n.Born), overlap(p.Died, n.Died)
	}
	if checkNote(p) != api.OK {
		return api.Note{}, api.ErrClash
	}
	return p, api.OK
}

// Impossible returns the classes that have no persona.
func Impossible(l []api.Note, d []api.Decision) ([][]int, api.Errno) {
	if e := CheckNotes(l); e != api.OK {
		return nil, e
	}
	classes, e := Classes(len(l), d)
	if e != api.OK {
		return nil, e
	}
	var impossible [][]int
	for _, class := range classes {
		if _, e := persona(l, class); e != api.OK {
			impossible = append(impossible, class)
		}
	}
	return impossible, api.OK
}
