package allot

import (
	"strconv"
	"strings"

	"mortsafe/api"
)

const (
	hallWord    = "hall"
	openWord    = "open"
	closedWord  = "closed"
	funeralWord = "funeral"
	maxDigits   = 7
)

// Print returns the text of a hall and its funerals.
func Print(h api.Hall, l []api.Funeral) (string, api.Errno) {
	if e := CheckFunerals(h, l); e != api.OK {
		return "", e
	}
	text := line(hallWord, h.Chapels, h.Crews, h.Machines, h.Pause)
	for _, open := range h.Open {
		text += line(openWord, open[:]...)
	}
	for _, day := range h.Closed {
		text += line(closedWord, day)
	}
	for _, f := range l {
		machine := 0
		if f.Machine {
			machine = 1
		}
		text += line(funeralWord+" "+f.Name, f.From, f.Until, f.Service, f.Dig, f.Crews, machine)
	}
	return text, api.OK
}

// line returns a line of a word (or more of them) and numbers.
func line(word string, numbers ...int) string {
	for _, n := range numbers {
		word += " " + strconv.Itoa(n)
	}
	return word + "\n"
}

// Parse returns the hall and the funerals with a text; beside api.ErrSyntax the number of
// the first wrong line, from 1 on.
func Parse(t string) (api.Hall, []api.Funeral, int, api.Errno) {
	if len(t) > api.MaxText {
		return api.Hall{}, nil, 0, api.ErrLarge
	}
	var r reading
	for rest := t; rest != ""; {
		text, further, ended := strings.Cut(rest, "\n")
		if !ended || !r.take(text) {
			return api.Hall{}, nil, r.lines + 1, api.ErrSyntax
		}
		rest = further
		r.lines++
	}
	if r.lines <= len(r.hall.Open) {
		return api.Hall{}, nil, r.lines + 1, api.ErrSyntax
	}
	if e := CheckFunerals(r.hall, r.funerals); e != api.OK {
		return api.Hall{}, nil, 0, e
	}
	return r.hall, r.funerals, 0, api.OK
}

// reading is what has been read of a text.
type reading struct {
	hall     api.Hall
	funerals []api.Funeral
	lines    int
}

// take reads a further line, and tells whether it is right there.
func (r *reading) take(text string) bool {
	word, rest, _ := strings.Cut(text, " ")
	h := &r.hall
	switch {
	case r.lines == 0:
		return word == hallWord && read(rest, &h.Chapels, &h.Crews, &h.Machines, &h.Pause)
	case r.lines <= len(h.Open):
		open := &h.Open[r.lines-1]
		return word == openWord && read(rest, &open[0], &open[1])
	case word == closedWord && len(r.funerals) == 0:
		h.Closed = append(h.Closed, 0)
		return read(rest, &h.Closed[len(h.Closed)-1])
	}
	return word == funeralWord && r.takeFuneral(rest)
}

func (r *reading) takeFuneral(text string) bool {
	var f api.Funeral
	name, rest, _ := strings.Cut(text, " ")
	machine := 0
	is := read(rest, &f.From, &f.Until, &f.Service, &f.Dig, &f.Crews, &machine)
	f.Name, f.Machine = name, machine == 1
	r.funerals = append(r.funerals, f)
	return is && isFromTo(machine, 0, 1)
}

// read reads numbers, and tells whether a text is just these.
func read(text string, numbers ...*int) bool {
	words := strings.Split(text, " ")
	if len(words) != len(numbers) {
		return false
	}
	for i, word := range words {
		n, err := strconv.Atoi(word)
		if err != nil || len(strings.TrimPrefix(word, "-")) > maxDigits || strconv.Itoa(n) != word {
			return false
		}
		*numbers[i] = n
	}
	return true
}
