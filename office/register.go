package office

import (
	"strconv"

	"mortsafe/api"
	"mortsafe/grave"
	"mortsafe/money"
)

// line returns a line of a register.
func line(name, text string) string { return name + ": " + text + "\n" }

// Register returns a line for each remain, which tells where it is.
func Register(b api.Base, l []api.Entry, at [2]int) (string, api.Errno) {
	s, e := stateAt(b, l, at)
	if e != api.OK {
		return "", e
	}
	lots, _ := grave.On(s.Yard, s.Events, at[1])
	return written(lots, "", func(lot api.Lot) string { return line(lot.Remain, writeLot(lot)) }), api.OK
}

// Map returns a line for each site, which tells what is there.
func Map(b api.Base, l []api.Entry, at [2]int) (string, api.Errno) {
	s, e := stateAt(b, l, at)
	if e != api.OK {
		return "", e
	}
	return written(s.Yard.Sites, "", func(x api.Site) string { return line(x.Name, s.answerSite(x.Name, at[1])) }), api.OK
}

// Ledger returns a line for each account, which tells its balance.
func Ledger(b api.Base, l []api.Entry, at [2]int) (string, api.Errno) {
	s, e := stateAt(b, l, at)
	if e != api.OK {
		return "", e
	}
	accounts, sums, _ := money.Trial(s.Postings, at[1])
	text := ""
	for i, account := range accounts {
		text += line(account, strconv.Itoa(sums[i]))
	}
	return text, api.OK
}
