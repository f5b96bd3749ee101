package money

import (
	"strconv"
	"strings"

	"mortsafe/api"
)

const (
	rateDigits    = 7
	postingDigits = 13
)

// FormatPosting returns the text of a posting, which may be wrong.
func FormatPosting(p api.Posting) string {
	return words(strconv.Itoa(p.Day), strconv.Itoa(p.Cents), p.Debit, p.Credit)
}

// words returns words with single blanks between them.
func words(l ...string) string { return strings.Join(l, " ") }

// ParsePosting returns the posting with a text, which may be wrong in all but its form.
func ParsePosting(s string) (api.Posting, api.Errno) {
	l := strings.Split(s, " ")
	if len(l) != 4 {
		return api.Posting{}, api.ErrSyntax
	}
	p := api.Posting{Debit: l[2], Credit: l[3]}
	if !read(l[0], postingDigits, &p.Day) || !read(l[1], postingDigits, &p.Cents) {
		return api.Posting{}, api.ErrSyntax
	}
	return p, api.OK
}

// read reads a number, and tells whether a word is one with no more digits than it may have.
func read(word string, most int, number *int) bool {
	n, err := strconv.Atoi(word)
	*number = n
	return err == nil && len(strings.TrimPrefix(word, "-")) <= most && strconv.Itoa(n) == word
}

// Print returns the text of a tariff.
func Print(l []api.Rate) (string, api.Errno) {
	if e := CheckRates(l); e != api.OK {
		return "", e
	}
	text := ""
	for _, r := range l {
		text += words(r.Class, strconv.Itoa(r.From), strconv.Itoa(r.Cents)) + "\n"
	}
	return text, api.OK
}

// Parse returns the rates with a text; beside api.ErrSyntax the number of the first wrong line,
// from 1 on.
func Parse(s string) ([]api.Rate, int, api.Errno) {
	if len(s) > api.MaxText {
		return nil, 0, api.ErrLarge
	}
	var l []api.Rate
	for rest := s; rest != ""; {
		line, further, ended := strings.Cut(rest, "\n")
		r, is := readRate(line)
		if !ended || !is {
			return nil, len(l) + 1, api.ErrSyntax
		}
		l, rest = append(l, r), further
	}
	if e := CheckRates(l); e != api.OK {
		return nil, 0, e
	}
	return l, 0, api.OK
}

// readRate reads a rate, and tells whether a line is one; its numbers have no sign.
func readRate(line string) (api.Rate, bool) {
	l := strings.Split(line, " ")
	if len(l) != 3 {
		return api.Rate{}, false
	}
	r := api.Rate{Class: l[0]}
	is := read(l[1], rateDigits, &r.From) && read(l[2], rateDigits, &r.Cents)
	return r, is && r.From >= 0 && r.Cents >= 0
}
