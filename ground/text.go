package ground

import (
	"strconv"
	"strings"

	"mortsafe/api"
)

const maxDigits = 7

func isLetter(c byte) bool { return 'a' <= c && c <= 'z' || 'A' <= c && c <= 'Z' }

func isDigit(c byte) bool { return '0' <= c && c <= '9' }

func isName(s string) bool {
	if len(s) < 1 || len(s) > api.MaxName || !isLetter(s[0]) {
		return false
	}
	for i := range len(s) {
		if c := s[i]; !isLetter(c) && !isDigit(c) && c != '-' {
			return false
		}
	}
	return true
}

// Print returns the text of a section.
func Print(s api.Section) (string, api.Errno) {
	if _, e := CheckSection(s); e != api.OK {
		return "", e
	}
	text := line("section", s.Name, s.Corners)
	for _, p := range s.Plots {
		text += line("plot", p.Name, p.Corners)
	}
	return text, api.OK
}

func line(word, name string, corners []api.Point) string {
	words := []string{word, name}
	for _, c := range corners {
		words = append(words, strconv.Itoa(c.X), strconv.Itoa(c.Y))
	}
	return strings.Join(words, " ") + "\n"
}

// Parse returns the section with a text; beside api.ErrSyntax the number of the
// first wrong line, from 1 on.
func Parse(t string) (api.Section, int, api.Errno) {
	if len(t) > api.MaxText {
		return api.Section{}, 0, api.ErrLarge
	}
	s, wrong := readSection(t)
	if wrong > 0 {
		return api.Section{}, wrong, api.ErrSyntax
	}
	if _, e := CheckSection(s); e != api.OK {
		return api.Section{}, 0, e
	}
	return s, 0, api.OK
}

// readSection returns the section of a text that may break other rules than those
// of the lines, or the number of the first wrong line.
func readSection(t string) (api.Section, int) {
	text, rest, ended := strings.Cut(t, "\n")
	name, corners, is := readLine("section", text)
	if !ended || !is {
		return api.Section{}, 1
	}
	s := api.Section{Name: name, Corners: corners}
	for number := 2; rest != ""; number++ {
		text, rest, ended = strings.Cut(rest, "\n")
		name, corners, is = readLine("plot", text)
		if !ended || !is {
			return api.Section{}, number
		}
		s.Plots = append(s.Plots, api.Plot{Name: name, Corners: corners})
	}
	return s, 0
}

// readLine reads a line that begins with a word: a name, and pairs of numbers.
func readLine(word, text string) (string, []api.Point, bool) {
	words := strings.Split(text, " ")
	if len(words) < 2 || words[0] != word || len(words)%2 != 0 {
		return "", nil, false
	}
	var corners []api.Point
	for i := 2; i < len(words); i += 2 {
		x, isX := readNumber(words[i])
		y, isY := readNumber(words[i+1])
		if !isX || !isY {
			return "", nil, false
		}
		corners = append(corners, api.Point{X: x, Y: y})
	}
	return words[1], corners, true
}

func readNumber(word string) (int, bool) {
	digits := strings.TrimPrefix(word, "-")
	if len(digits) < 1 || len(digits) > maxDigits {
		return 0, false
	}
	for i := range len(digits) {
		if !isDigit(digits[i]) {
			return 0, false
		}
	}
	if digits[0] == '0' && word != "0" {
		return 0, false
	}
	n, err := strconv.Atoi(word)
	return n, err == nil
}
