package consent

import (
	"strconv"
	"strings"

	"mortsafe/api"
)

const (
	allBegins  = "all("
	anyBegins  = "any("
	sumBegins  = " of (" // behind the need
	listGoesOn = ", "
	listEnds   = ")"

	maxRuleText = 2000
	mostOfText  = 999999 // six digits
)

// Print returns the text of a rule.
func Print(r api.Rule) (string, api.Errno) {
	if e := CheckRule(r); e != api.OK {
		return "", e
	}
	return textOf(r), api.OK
}

func textOf(r api.Rule) string {
	var parts []string
	for i, part := range r.Parts {
		text := textOf(part)
		if r.Kind == api.RuleSum {
			text = strconv.Itoa(r.Weights[i]) + " " + text
		}
		parts = append(parts, text)
	}
	switch r.Kind {
	case api.RuleAll:
		return list(allBegins, parts...)
	case api.RuleAny:
		return list(anyBegins, parts...)
	case api.RuleSum:
		return list(strconv.Itoa(r.Need)+sumBegins, parts...)
	}
	return r.Person
}

func list(begins string, parts ...string) string {
	return begins + strings.Join(parts, listGoesOn) + listEnds
}

// Parse returns the rule with a text.
func Parse(s string) (api.Rule, api.Errno) {
	if len(s) > maxRuleText {
		return api.Rule{}, api.ErrLarge
	}
	t := &reader{rest: s}
	r := t.rule()
	if t.wrong || t.rest != "" {
		return api.Rule{}, api.ErrSyntax
	}
	if e := CheckRule(r); e != api.OK {
		return api.Rule{}, e
	}
	return r, api.OK
}

// reader takes a text from its beginning on, and keeps in mind whether something in it was
// wrong.
type reader struct {
	rest  string
	wrong bool
}

// skip takes what may stand next, and tells whether it does.
func (t *reader) skip(next string) bool {
	rest, is := strings.CutPrefix(t.rest, next)
	t.rest = rest
	return is
}

// expect takes what must stand next.
func (t *reader) expect(next string) { t.wrong = !t.skip(next) || t.wrong }

// word takes a name or the digits of a number.
func (t *reader) word() string {
	end := 0
	for end < len(t.rest) && isSign(t.rest[end]) {
		end++
	}
	word := t.rest[:end]
	t.rest = t.rest[end:]
	t.wrong = t.wrong || word == ""
	return word
}

// number reads a number of the form in which numbers are written, and no other.
func (t *reader) number(word string) int {
	n, err := strconv.Atoi(word)
	t.wrong = t.wrong || err != nil || !isFromTo(n, 0, mostOfText) || strconv.Itoa(n) != word
	return n
}

func (t *reader) rule() api.Rule {
	switch {
	case t.skip(allBegins):
		return t.list(api.Rule{Kind: api.RuleAll})
	case t.skip(anyBegins):
		return t.list(api.Rule{Kind: api.RuleAny})
	}
	word := t.word()
	if t.skip(sumBegins) {
		return t.list(api.Rule{Kind: api.RuleSum, Need: t.number(word)})
	}
	return personNamed(word)
}

// list takes the parts of a node, up to the end of their list.
func (t *reader) list(n api.Rule) api.Rule {
	for first := true; !t.wrong && !t.skip(listEnds); first = false {
		if !first {
			t.expect(listGoesOn)
		}
		if n.Kind == api.RuleSum {
			n.Weights = append(n.Weights, t.number(t.word()))
			t.expect(" ")
		}
		n.Parts = append(n.Parts, t.rule())
	}
	return n
}
