package right

import (
	"slices"
	"strconv"
	"strings"

	"mortsafe/api"
)

const (
	noName    = "-"
	maxDigits = 10
)

// kindWords returns the words of the kinds of deeds, by their numbers.
func kindWords() []string {
	return []string{"grant", "transfer", "surrender", "renewal", "will", "renounce", "child", "marriage", "death"}
}

// FormatDeed returns the text of a deed, also of a wrong one.
func FormatDeed(d api.Deed) string {
	kind := strconv.Itoa(d.Kind)
	if known := kindWords(); isFromTo(d.Kind, 0, len(known)-1) {
		kind = known[d.Kind]
	}
	words := []string{kind, strconv.Itoa(d.Day), nameWord(d.Place), nameWord(d.From), strconv.Itoa(d.Class), strconv.Itoa(d.Years)}
	for _, p := range d.To {
		words = append(words, nameWord(p.Name), strconv.Itoa(p.Share.Num), strconv.Itoa(p.Share.Den))
	}
	return strings.Join(words, " ")
}

func nameWord(name string) string {
	if name == "" {
		return noName
	}
	return name
}

// ParseDeed returns the deed with a text.
func ParseDeed(s string) (api.Deed, api.Errno) {
	r := &reader{words: strings.Split(s, " ")}
	d := r.deed()
	if e := firstError(errorIf(r.wrong, api.ErrSyntax), CheckDeed(d)); e != api.OK {
		return api.Deed{}, e
	}
	return d, api.OK
}

// reader takes the words of a text one after the other, and keeps in mind whether one of
// them was wrong or was not there.
type reader struct {
	words []string
	wrong bool
}

func (r *reader) deed() api.Deed {
	d := api.Deed{Kind: slices.Index(kindWords(), r.word())}
	r.wrong = r.wrong || d.Kind < 0
	d.Day = r.number()
	d.Place, d.From = r.name(), r.name()
	d.Class, d.Years = r.number(), r.number()
	for len(r.words) > 0 && !r.wrong {
		name := r.name()
		num, den := r.number(), r.number()
		d.To = append(d.To, api.Part{Name: name, Share: api.Frac{Num: num, Den: den}})
	}
	return d
}

// word takes the next word; one that is not there is empty, and so is as wrong.
func (r *reader) word() string {
	word := ""
	if len(r.words) > 0 {
		word, r.words = r.words[0], r.words[1:]
	}
	r.wrong = r.wrong || word == ""
	return word
}

func (r *reader) name() string {
	word := r.word()
	if word == noName {
		return ""
	}
	return word
}

// number takes a number of the form in which numbers are written, and no other.
func (r *reader) number() int {
	word := r.word()
	n, err := strconv.Atoi(word)
	digits := len(strings.TrimPrefix(word, "-"))
	r.wrong = r.wrong || err != nil || digits > maxDigits || strconv.Itoa(n) != word
	return n
}
