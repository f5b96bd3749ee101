package office

import (
	"strconv"
	"strings"

	"mortsafe/api"
	"mortsafe/grave"
	"mortsafe/money"
	"mortsafe/person"
	"mortsafe/right"
	"mortsafe/rule"
)

// The words with which the texts of entries begin.
const (
	graveWord    = "grave"
	personWord   = "person"
	rightWord    = "right"
	moneyWord    = "money"
	ruleWord     = "rule"
	withdrawWord = "withdraw"
)

// content is what an entry says: it writes itself as the text of the entry, and tells what is
// wrong with it there.
type content interface {
	write() string
	check(e api.Entry) api.Errno
}

type event struct{ api.Event }

type decision struct{ api.Decision }

type deed struct{ api.Deed }

type posting struct{ api.Posting }

type provision struct{ api.Provision }

// withdrawal is the only content that is no fact.
type withdrawal struct{ api.Key }

// readContent returns what a text says, which may be written otherwise. A word with nothing
// behind it needs no case: nothing can be read of an empty text.
func readContent(text string) (content, api.Errno) {
	word, rest, _ := strings.Cut(text, " ")
	switch word {
	case graveWord:
		x, e := grave.ParseEvent(rest)
		return event{x}, e
	case personWord:
		x, e := person.ParseDecision(rest)
		return decision{x}, e
	case rightWord:
		x, e := right.ParseDeed(rest)
		return deed{x}, e
	case moneyWord:
		x, e := money.ParsePosting(rest)
		return posting{x}, e
	case ruleWord:
		x, e := rule.ParseProvision(rest)
		return provision{x}, e
	case withdrawWord:
		return readWithdrawal(rest)
	}
	return nil, api.ErrSyntax
}

// readWithdrawal overlooks what is wrong with a number but its size: written again, the withdrawal
// shows it.
func readWithdrawal(text string) (withdrawal, api.Errno) {
	office, word, _ := strings.Cut(text, " ")
	number, _ := strconv.Atoi(word)
	isWrong := !isName(office) || !isFromTo(number, 1, api.MaxEntries)
	return withdrawal{api.Key{Office: office, Number: number}}, errorIf(isWrong, api.ErrSyntax)
}

func (x event) write() string {
	text, _ := grave.FormatEvent(x.Event)
	return graveWord + " " + text
}

func (x decision) write() string { return personWord + " " + person.FormatDecision(x.Decision) }

func (x deed) write() string { return rightWord + " " + right.FormatDeed(x.Deed) }

func (x posting) write() string { return moneyWord + " " + money.FormatPosting(x.Posting) }

func (x provision) write() string { return ruleWord + " " + rule.FormatProvision(x.Provision) }

func (x withdrawal) write() string { return withdrawWord + " " + writeKey(x.Key) }

func writeKey(k api.Key) string { return k.Office + " " + strconv.Itoa(k.Number) }

func (x event) check(e api.Entry) api.Errno { return errorIf(x.Day != e.Day, api.ErrDate) }

// check refuses withdrawals of decisions, since an entry withdraws another one.
func (x decision) check(api.Entry) api.Errno {
	return errorIf(x.Kind == api.DecideWithdraw, api.ErrKind)
}

func (x deed) check(e api.Entry) api.Errno { return errorIf(x.Day != e.Day, api.ErrDate) }

func (x posting) check(e api.Entry) api.Errno { return errorIf(x.Day != e.Day, api.ErrDate) }

func (x provision) check(e api.Entry) api.Errno {
	return errorIf(x.Entered != e.Entered || x.From != e.Day, api.ErrDate)
}

func (x withdrawal) check(e api.Entry) api.Errno { return errorIf(e.Entered != e.Day, api.ErrDate) }
