package office

import (
	"strconv"
	"strings"

	"mortsafe/api"
)

// The number of a line is made of its bytes by these.
const (
	numberFactor  = 31
	numberModulus = 10007
)

// mark stands before the number of a line. An entry may have it, too, but a number has not.
const mark = " #"

// numbered returns a text with its number as a line of a journal, which lines are counted from 1 on.
func numbered(text string, line int) string {
	n := line
	for i := range len(text) {
		n = (numberFactor*n + int(text[i])) % numberModulus
	}
	return text + mark + strconv.Itoa(n)
}

// Journal returns the journal of entries.
func Journal(l []api.Entry) (string, api.Errno) {
	items, e := understandAll(l)
	if e != api.OK {
		return "", e
	}
	text := ""
	for i, x := range items {
		text += numbered(FormatEntry(x.Entry), i+1) + "\n"
	}
	return text, api.OK
}

// readLine reads a line of a journal, and tells whether it is right by itself.
func readLine(text string, line int) (api.Entry, bool) {
	end := max(0, strings.LastIndex(text, mark))
	e, wrong := ParseEntry(text[:end])
	return e, wrong == api.OK && numbered(text[:end], line) == text
}

// Recover returns the entries of the longest beginning of lines that is a journal, and the number
// of its bytes. A beginning of a journal is one, too, so that the first line that is wrong ends it.
func Recover(text string) ([]api.Entry, int) {
	var l []api.Entry
	var last api.Entry
	read := 0
	for len(l) < api.MaxEntries {
		line, _, ended := strings.Cut(text[read:], "\n")
		e, is := readLine(line, len(l)+1)
		if !ended || !is || !follows(last, e) {
			break
		}
		l, last = append(l, e), e
		read += len(line) + 1
	}
	return l, read
}
