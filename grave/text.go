package grave

import (
	"slices"
	"strconv"
	"strings"

	"mortsafe/api"
)

const (
	siteWord   = "site"
	restWord   = "rest"
	coversWord = "covers"
	orderWord  = "order"
	maxDigits  = 7
)

// kindWords returns the words of the kinds of events, by their numbers.
func kindWords() []string { return []string{"bury", "exhume", "rebury", "lower", "gather"} }

// FormatEvent returns the text of an event.
func FormatEvent(e api.Event) (string, api.Errno) {
	if wrong := CheckEvent(e); wrong != api.OK {
		return "", wrong
	}
	words := []string{kindWords()[e.Kind], strconv.Itoa(e.Day)}
	if isBurial(e.Kind) {
		words = append(words, e.Site)
	}
	if hasLevel(e.Kind) {
		words = append(words, strconv.Itoa(e.Level))
	}
	words = append(words, e.Remain)
	if isBurial(e.Kind) {
		words = append(words, strconv.Itoa(e.Container))
	}
	if e.Order {
		words = append(words, orderWord)
	}
	return strings.Join(words, " "), api.OK
}

// ParseEvent returns the event with a text.
func ParseEvent(s string) (api.Event, api.Errno) {
	e := guessEvent(s)
	if text, wrong := FormatEvent(e); wrong != api.OK || text != s {
		return api.Event{}, api.ErrSyntax
	}
	return e, api.OK
}

// guessEvent returns the event that alone can have a text. It overlooks what is
// wrong with the text: written again, the event shows it.
func guessEvent(s string) api.Event {
	rest := s
	word := func() string {
		first, further, _ := strings.Cut(rest, " ")
		rest = further
		return first
	}
	number := func() int {
		n, _ := strconv.Atoi(word())
		return n
	}
	var e api.Event
	e.Kind = slices.Index(kindWords(), word())
	e.Day = number()
	if isBurial(e.Kind) {
		e.Site = word()
	}
	if hasLevel(e.Kind) {
		e.Level = number()
	}
	e.Remain = word()
	if isBurial(e.Kind) {
		e.Container = number()
	}
	e.Order = rest != ""
	return e
}

// line returns a line of a word (or more of them) and numbers.
func line(word string, numbers ...int) string {
	for _, n := range numbers {
		word += " " + strconv.Itoa(n)
	}
	return word + "\n"
}

// Print returns the text of a yard and events.
func Print(y api.Yard, l []api.Event) (string, api.Errno) {
	if _, e := replay(y, l); e != api.OK {
		return "", e
	}
	text := ""
	for _, s := range y.Sites {
		text += line(siteWord+" "+s.Name, s.Kind, s.Soil, s.Depth, s.Step, s.Room)
	}
	for _, r := range y.Rests {
		text += line(restWord, r.Soil, r.Container, r.Days)
	}
	text += line(coversWord, y.Covers[:]...)
	for _, e := range l {
		event, _ := FormatEvent(e)
		text += line(event)
	}
	return text, api.OK
}

// Parse returns the yard and the events with a text; beside api.ErrSyntax the number
// of the first wrong line, from 1 on.
func Parse(t string) (api.Yard, []api.Event, int, api.Errno) {
	if len(t) > api.MaxText {
		return api.Yard{}, nil, 0, api.ErrLarge
	}
	var r reading
	number := 1
	for rest := t; rest != ""; number++ {
		text, further, ended := strings.Cut(rest, "\n")
		if !ended || !r.take(text) {
			return api.Yard{}, nil, number, api.ErrSyntax
		}
		rest = further
	}
	if !r.covered {
		return api.Yard{}, nil, number, api.ErrSyntax
	}
	if _, e := replay(r.yard, r.events); e != api.OK {
		return api.Yard{}, nil, 0, e
	}
	return r.yard, r.events, 0, api.OK
}

// reading is what has been read of a text, and whether the line of the covers has,
// behind which only events may follow.
type reading struct {
	yard    api.Yard
	events  []api.Event
	covered bool
}

// take reads a further line, and tells whether it is right there.
func (r *reading) take(text string) bool {
	if r.covered {
		e, wrong := ParseEvent(text)
		r.events = append(r.events, e)
		return wrong == api.OK
	}
	word, rest, _ := strings.Cut(text, " ")
	switch {
	case word == siteWord && len(r.yard.Rests) == 0:
		return r.takeSite(rest)
	case word == restWord:
		return r.takeRest(rest)
	case word == coversWord:
		return r.takeCovers(rest)
	}
	return false
}

func (r *reading) takeSite(text string) bool {
	name, rest, _ := strings.Cut(text, " ")
	n, is := readNumbers(rest, 5)
	if is {
		s := api.Site{Name: name, Kind: n[0], Soil: n[1], Depth: n[2], Step: n[3], Room: n[4]}
		r.yard.Sites = append(r.yard.Sites, s)
	}
	return is
}

func (r *reading) takeRest(text string) bool {
	n, is := readNumbers(text, 3)
	if is {
		r.yard.Rests = append(r.yard.Rests, api.Rest{Soil: n[0], Container: n[1], Days: n[2]})
	}
	return is
}

func (r *reading) takeCovers(text string) bool {
	n, is := readNumbers(text, 3)
	if is {
		r.yard.Covers, r.covered = [3]int{n[0], n[1], n[2]}, true
	}
	return is
}

// readNumbers reads exactly a count of numbers with single blanks between.
func readNumbers(text string, count int) ([]int, bool) {
	words := strings.Split(text, " ")
	if len(words) != count {
		return nil, false
	}
	var numbers []int
	for _, word := range words {
		n, is := readNumber(word)
		if !is {
			return nil, false
		}
		numbers = append(numbers, n)
	}
	return numbers, true
}

// readNumber reads a number of the form in which numbers are written, and no other.
func readNumber(word string) (int, bool) {
	n, err := strconv.Atoi(word)
	digits := len(strings.TrimPrefix(word, "-"))
	return n, err == nil && digits <= maxDigits && strconv.Itoa(n) == word
}
