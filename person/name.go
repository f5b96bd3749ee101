package person

import (
	"strings"

	"mortsafe/api"
)

const (
	maxCount    = 1000000
	maxReadings = 64
)

// name is the signs of a name's text.
type name []sign

// cutSign cuts the text of the first sign off a text that is not empty.
func cutSign(s string) (first, rest string) {
	if s[0] != '[' {
		return s[:1], s[1:]
	}
	_, rest, _ = strings.Cut(s, "]")
	return s[:len(s)-len(rest)], rest
}

// readName returns the name with a text. Of a text with too many signs it keeps no more
// than one too many, so that a long text takes no memory.
func readName(s string) (name, api.Errno) {
	var signs name
	for rest := s; rest != ""; {
		first, further := cutSign(rest)
		x, is := readSign(first)
		if !is {
			return nil, api.ErrSyntax
		}
		if len(signs) <= api.MaxSigns {
			signs = append(signs, x)
		}
		rest = further
	}
	e := firstError(errorIf(s == "", api.ErrSyntax), errorIf(len(signs) > api.MaxSigns, api.ErrLarge))
	return signs, e
}

func readNames(a, b string) (name, name, api.Errno) {
	first, e := readName(a)
	second, wrong := readName(b)
	return first, second, firstError(e, wrong)
}

// CheckName returns the error of a name's text.
func CheckName(s string) api.Errno {
	_, e := readName(s)
	return e
}

// Signs returns the letters of each sign of a name.
func Signs(s string) ([]string, api.Errno) {
	n, e := readName(s)
	if e != api.OK {
		return nil, e
	}
	var signs []string
	for i := range len(n) {
		signs = append(signs, n[i].spelt())
	}
	return signs, api.OK
}

// Count returns the number of readings of a name.
func Count(s string) (int, api.Errno) {
	n, e := readName(s)
	if e != api.OK {
		return 0, e
	}
	count := 1
	for i := range len(n) {
		count *= n[i].size()
		if count > maxCount { // told at once: the number of all readings may not fit an int
			return 0, api.ErrLarge
		}
	}
	return count, api.OK
}

// Readings returns all readings of a name, ascending.
func Readings(s string) ([]string, api.Errno) {
	count, wrong := Count(s)
	if e := firstError(wrong, errorIf(count > maxReadings, api.ErrLarge)); e != api.OK {
		return nil, e
	}
	n, _ := readName(s)
	readings := []string{""}
	for i := range len(n) {
		readings = n[i].behind(readings)
	}
	return readings, api.OK
}

// behind returns texts with each letter of a sign behind each of them; ascending, if
// the texts are.
func (s sign) behind(texts []string) []string {
	var longer []string
	for _, text := range texts {
		for letter := range s.letters {
			longer = append(longer, text+string(letter))
		}
	}
	return longer
}

// Common returns the common text of two names.
func Common(a, b string) (string, api.Errno) {
	n, m, wrong := readNames(a, b)
	if e := firstError(wrong, errorIf(len(n) != len(m), api.ErrNone)); e != api.OK {
		return "", e
	}
	text := ""
	for i := range len(n) {
		both := n[i] & m[i]
		if both == 0 {
			return "", api.ErrNone
		}
		text += both.text()
	}
	return text, api.OK
}

// Distance returns the distance of two names.
func Distance(a, b string) (int, api.Errno) {
	n, m, e := readNames(a, b)
	if e != api.OK {
		return 0, e
	}
	return n.distance(m), api.OK
}

// distance goes through the beginnings of a name; of each one it keeps the distances
// from all beginnings of the other name. The letters of a sign can be chosen without
// regard to the other signs, so that signs with a common letter need no change.
func (n name) distance(m name) int {
	row := make([]int, len(m)+1)
	for k := range row {
		row[k] = k
	}
	for i := range len(n) {
		shorter := row[0] // of the beginnings without their last signs
		row[0] = i + 1
		for k := range len(m) {
			replaced := shorter
			if n[i]&m[k] == 0 {
				replaced++
			}
			shorter = row[k+1]
			row[k+1] = min(replaced, row[k]+1, row[k+1]+1)
		}
	}
	return row[len(m)]
}
