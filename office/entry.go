package office

import (
	"cmp"
	"slices"
	"strconv"
	"strings"

	"mortsafe/api"
)

const (
	mostText  = 200 // bytes of the text of an entry
	mostDigit = 7   // digits of a number in the text of an entry, or in a line of the console
)

// item is an entry with what it says.
type item struct {
	api.Entry
	content
}

// understand returns an entry with what it says, and its error.
func understand(e api.Entry) (item, api.Errno) {
	isRange := isFromTo(e.Number, 1, api.MaxEntries) && isDay(e.Entered) && isDay(e.Day)
	wrong := firstError(
		errorIf(!isName(e.Office), api.ErrName),
		errorIf(!isRange, api.ErrRange),
		errorIf(len(e.Text) > mostText, api.ErrLarge),
		errorIf(strings.Contains(e.Text, "\n"), api.ErrSyntax),
	)
	if wrong != api.OK {
		return item{}, wrong
	}
	said, wrong := readContent(e.Text)
	if wrong != api.OK {
		return item{}, wrong
	}
	return item{e, said}, firstError(errorIf(said.write() != e.Text, api.ErrSyntax), said.check(e))
}

// understandAll returns entries that are right together with what they say, in canonical order.
func understandAll(l []api.Entry) ([]item, api.Errno) {
	if len(l) > api.MaxEntries {
		return nil, api.ErrLarge
	}
	var items []item
	for _, e := range l {
		x, wrong := understand(e)
		if wrong != api.OK {
			return nil, wrong
		}
		items = append(items, x)
	}
	slices.SortFunc(items, canonically)
	return items, checkTogether(items)
}

// faults tells what is wrong with an entry behind another one, in canonical order: the same key, a
// gap before it, or a day that falls.
func faults(last, e api.Entry) (exists, gap, falls bool) {
	if e.Office != last.Office {
		// Before its first entry an office is at the number 0.
		last = api.Entry{}
	}
	return e.Number == last.Number, e.Number != last.Number+1, e.Entered < last.Entered
}

// checkTogether returns the error of entries in canonical order, each of which is right by itself.
func checkTogether(l []item) api.Errno {
	var someExists, someGap, someFalls bool
	var last api.Entry
	for _, x := range l {
		exists, gap, falls := faults(last, x.Entry)
		someExists, someGap, someFalls = someExists || exists, someGap || gap, someFalls || falls
		last = x.Entry
	}
	return firstError(errorIf(someExists, api.ErrExists), errorIf(someGap, api.ErrGap), errorIf(someFalls, api.ErrOrder))
}

// follows tells whether an entry is right behind another one in a journal.
func follows(last, e api.Entry) bool {
	_, gap, falls := faults(last, e)
	return e.Office >= last.Office && !gap && !falls
}

func keyOf(e api.Entry) api.Key { return api.Key{Office: e.Office, Number: e.Number} }

func compareKeys(a, b api.Key) int {
	return cmp.Or(cmp.Compare(a.Office, b.Office), cmp.Compare(a.Number, b.Number))
}

func canonically(a, b item) int { return compareKeys(keyOf(a.Entry), keyOf(b.Entry)) }

// entriesOf returns entries without what they say.
func entriesOf(l []item) []api.Entry {
	var entries []api.Entry
	for _, x := range l {
		entries = append(entries, x.Entry)
	}
	return entries
}

// CheckEntry returns the error of an entry.
func CheckEntry(e api.Entry) api.Errno {
	_, wrong := understand(e)
	return wrong
}

// CheckEntries returns the error of entries together.
func CheckEntries(l []api.Entry) api.Errno {
	_, e := understandAll(l)
	return e
}

// FormatEntry returns the text of an entry, which may be wrong.
func FormatEntry(e api.Entry) string {
	words := []string{e.Office, strconv.Itoa(e.Number), strconv.Itoa(e.Entered), strconv.Itoa(e.Day), e.Text}
	return strings.Join(words, " ")
}

// ParseEntry returns the entry with a text.
func ParseEntry(s string) (api.Entry, api.Errno) {
	words := strings.SplitN(s, " ", 5)
	if len(words) < 5 {
		return api.Entry{}, api.ErrSyntax
	}
	e := api.Entry{Office: words[0], Text: words[4]}
	isRead := readNumber(words[1], &e.Number) && readNumber(words[2], &e.Entered) && readNumber(words[3], &e.Day)
	if wrong := firstError(errorIf(!isRead, api.ErrSyntax), CheckEntry(e)); wrong != api.OK {
		return api.Entry{}, wrong
	}
	return e, api.OK
}

// readNumber reads a number, and tells whether a word is one.
func readNumber(word string, number *int) bool {
	n, err := strconv.Atoi(word)
	*number = n
	return err == nil && len(strings.TrimPrefix(word, "-")) <= mostDigit && strconv.Itoa(n) == word
}

// Merge returns all entries of two lists, in canonical order.
func Merge(a, b []api.Entry) ([]api.Entry, api.Errno) {
	if e := firstError(CheckEntries(a), CheckEntries(b)); e != api.OK {
		return nil, e
	}
	known := map[api.Key]api.Entry{}
	for _, e := range a {
		known[keyOf(e)] = e
	}
	all := slices.Clone(a)
	for _, e := range b {
		same, has := known[keyOf(e)]
		if has && same != e {
			return nil, api.ErrClash
		}
		if !has {
			all = append(all, e)
		}
	}
	items, e := understandAll(all)
	if e != api.OK {
		return nil, e
	}
	return entriesOf(items), api.OK
}
