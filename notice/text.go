package notice

import (
	"strconv"
	"strings"

	"mortsafe/api"
)

const (
	noticeWord = "notice"
	actWord    = "act"
	maxDigits  = 7
)

// Print returns the text of a notice, which may be wrong.
func Print(n api.Notice) (string, api.Errno) {
	if len(n.Acts) > api.MaxNoticeActs {
		return "", api.ErrLarge
	}
	text := line(noticeWord+" "+n.Name, n.Opened)
	for _, a := range acts(n, anyAct) {
		text += line(actWord, a.Day, a.Kind, a.Days)
	}
	return text, api.OK
}

// line returns a line of a word (or more of them) and numbers.
func line(word string, numbers ...int) string {
	for _, n := range numbers {
		word += " " + strconv.Itoa(n)
	}
	return word + "\n"
}

// Parse returns the notice with a text; beside api.ErrSyntax the number of the first wrong
// line, from 1 on.
func Parse(s string) (api.Notice, int, api.Errno) {
	if len(s) > api.MaxText {
		return api.Notice{}, 0, api.ErrLarge
	}
	var n api.Notice
	rest := s
	for number := 1; number == 1 || rest != ""; number++ {
		text, further, ended := strings.Cut(rest, "\n")
		if !ended || !take(&n, number, text) {
			return api.Notice{}, number, api.ErrSyntax
		}
		rest = further
	}
	if len(n.Acts) > api.MaxNoticeActs {
		return api.Notice{}, 0, api.ErrLarge
	}
	return n, 0, api.OK
}

// take reads a line of a notice's text, and tells whether it is right there.
func take(n *api.Notice, number int, text string) bool {
	word, rest, _ := strings.Cut(text, " ")
	if number == 1 {
		name, opened, _ := strings.Cut(rest, " ")
		n.Name = name
		return word == noticeWord && read(opened, &n.Opened)
	}
	var a api.NoticeAct
	is := word == actWord && read(rest, &a.Day, &a.Kind, &a.Days)
	n.Acts = append(n.Acts, a)
	return is
}

// read reads numbers, and tells whether a text is just these.
func read(text string, numbers ...*int) bool {
	words := strings.Split(text, " ")
	if len(words) != len(numbers) {
		return false
	}
	for i, word := range words {
		n, err := strconv.Atoi(word)
		if err != nil || len(strings.TrimPrefix(word, "-")) > maxDigits || strconv.Itoa(n) != word {
			return false
		}
		*numbers[i] = n
	}
	return true
}
