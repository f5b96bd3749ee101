package person

import (
	"slices"
	"strconv"
	"strings"

	"mortsafe/api"
)

const (
	mostOfDecision = 999999999 // nine digits
	mostOfEntry    = 9999999   // seven digits
	entryWords     = 5
)

// kindWords returns the words of the kinds of decisions, by their numbers.
func kindWords() []string { return []string{"same", "different", "withdraw"} }

// FormatDecision returns the text of a decision.
func FormatDecision(d api.Decision) string {
	if !isNumberOf(d.Kind, len(kindWords())) {
		return ""
	}
	text := kindWords()[d.Kind] + " " + strconv.Itoa(d.A)
	if d.Kind != api.DecideWithdraw {
		text += " " + strconv.Itoa(d.B)
	}
	return text
}

// ParseDecision returns the decision with a text. It takes what can be read as a
// number; written again, the decision shows whether the text is right.
func ParseDecision(s string) (api.Decision, api.Errno) {
	kind, numbers, _ := strings.Cut(s, " ")
	first, second, _ := strings.Cut(numbers, " ")
	a, _ := strconv.Atoi(first)
	b, _ := strconv.Atoi(second)
	d := api.Decision{Kind: slices.Index(kindWords(), kind), A: a, B: b}
	if s == "" || FormatDecision(d) != s || !isShortNumber(a) || !isShortNumber(b) {
		return api.Decision{}, api.ErrSyntax
	}
	return d, api.OK
}

func isShortNumber(n int) bool { return isFromTo(n, -mostOfDecision, mostOfDecision) }

// Print returns the text of entries.
func Print(l []api.Note) (string, api.Errno) {
	if e := CheckNotes(l); e != api.OK {
		return "", e
	}
	text := ""
	for _, n := range l {
		text += n.Name
		for _, day := range []int{n.Born.From, n.Born.To, n.Died.From, n.Died.To} {
			text += " " + strconv.Itoa(day)
		}
		text += "\n"
	}
	return text, api.OK
}

// Parse returns the entries with a text; beside api.ErrSyntax of a line its number,
// from 1 on.
func Parse(s string) ([]api.Note, int, api.Errno) {
	if len(s) > api.MaxText {
		return nil, 0, api.ErrLarge
	}
	var l []api.Note
	number := 1
	for rest := s; rest != ""; number++ {
		line, further, ended := strings.Cut(rest, "\n")
		n, is := readNote(line)
		if !ended || !is {
			return nil, number, api.ErrSyntax
		}
		l = append(l, n)
		rest = further
	}
	if e := CheckNotes(l); e != api.OK {
		return nil, 0, e
	}
	return l, 0, api.OK
}

// readNote returns the entry of a line, and whether the line is right. Its name and
// its days may be wrong nevertheless.
func readNote(line string) (api.Note, bool) {
	words := strings.Split(line, " ")
	if len(words) != entryWords {
		return api.Note{}, false
	}
	var days [entryWords - 1]int
	for i := range len(days) {
		day, is := readDay(words[i+1])
		if !is {
			return api.Note{}, false
		}
		days[i] = day
	}
	born, died := api.Span{From: days[0], To: days[1]}, api.Span{From: days[2], To: days[3]}
	return api.Note{Name: words[0], Born: born, Died: died}, true
}

// readDay reads a number of the form in which days are written, and no other.
func readDay(word string) (int, bool) {
	n, err := strconv.Atoi(word)
	return n, err == nil && isFromTo(n, 0, mostOfEntry) && strconv.Itoa(n) == word
}
