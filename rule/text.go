package rule

import (
	"strconv"
	"strings"

	"mortsafe/api"
)

const (
	repeal    = "repeal"
	maxLine   = 200
	maxDigits = 10
)

func line(words ...string) string { return strings.Join(words, " ") }

// FormatProvision returns the text of a provision, also of a wrong one.
func FormatProvision(p api.Provision) string {
	value := strconv.Itoa(p.Value)
	if p.Repeal {
		value = repeal
	}
	return line(p.Name, value, strconv.Itoa(p.From), strconv.Itoa(p.Entered))
}

// ParseProvision returns the provision with a text.
func ParseProvision(s string) (api.Provision, api.Errno) {
	p, wrong := readProvision(s)
	if e := firstError(wrong, checkProvision(p)); e != api.OK {
		return api.Provision{}, e
	}
	return p, api.OK
}

// readProvision returns the provision of a text that may break other rules than
// those of texts.
func readProvision(s string) (api.Provision, api.Errno) {
	if len(s) > maxLine {
		return api.Provision{}, api.ErrLarge
	}
	words := strings.Split(s, " ")
	if len(words) != 4 || strings.Contains(words[0], "\n") {
		return api.Provision{}, api.ErrSyntax
	}
	value, isValue := readNumber(words[1])
	from, isFrom := readNumber(words[2])
	entered, isEntered := readNumber(words[3])
	isRepeal := words[1] == repeal
	if !isValue && !isRepeal || !isFrom || !isEntered {
		return api.Provision{}, api.ErrSyntax
	}
	return api.Provision{Name: words[0], Value: value, From: from, Entered: entered, Repeal: isRepeal}, api.OK
}

func readNumber(word string) (int, bool) {
	digits := strings.TrimPrefix(word, "-")
	if len(digits) < 1 || len(digits) > maxDigits {
		return 0, false
	}
	for i := range len(digits) {
		if !isDigit(digits[i]) {
			return 0, false
		}
	}
	if digits[0] == '0' && word != "0" {
		return 0, false
	}
	n, err := strconv.Atoi(word)
	return n, err == nil
}

// Print returns the texts of entries, each with a line feed.
func Print(l []api.Provision) (string, api.Errno) {
	if e := CheckProvisions(l); e != api.OK {
		return "", e
	}
	text := ""
	for _, p := range l {
		text += FormatProvision(p) + "\n"
	}
	return text, api.OK
}

// Parse returns the entries with a text; beside api.ErrSyntax the number of the
// first wrong line, from 1 on.
func Parse(s string) ([]api.Provision, int, api.Errno) {
	if len(s) > api.MaxText {
		return nil, 0, api.ErrLarge
	}
	var l []api.Provision
	for number, rest := 1, s; rest != ""; number++ {
		text, further, ended := strings.Cut(rest, "\n")
		p, e := readProvision(text)
		if !ended || e != api.OK {
			return nil, number, api.ErrSyntax
		}
		l, rest = append(l, p), further
	}
	if e := CheckProvisions(l); e != api.OK {
		return nil, 0, e
	}
	return l, 0, api.OK
}
