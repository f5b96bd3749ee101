package office

import (
	"slices"
	"strconv"
	"strings"

	"mortsafe/api"
)

// puzzled is the answer to a line that is no command.
const puzzled = "?"

// queryWords returns the words of the kinds of queries, by their numbers.
func queryWords() []string {
	return []string{"remain", "site", "holders", "value", "balance", "class"}
}

// Do answers a line of the console.
func (o *Office) Do(line string) string {
	if o == nil {
		return puzzled
	}
	command, rest, _ := strings.Cut(line, " ")
	switch command {
	case "enter":
		return o.doEnter(rest)
	case "undo":
		return o.doUndo(rest)
	case "ask":
		return o.doAsk(rest)
	case "why":
		return o.doWhy(rest)
	case "refused":
		return o.doRefused(rest)
	}
	if line == "journal" {
		text, e := Journal(o.entries)
		return tellNumber(len(text), e)
	}
	return puzzled
}

// tell returns an answer, or tells its error.
func tell(answer string, e api.Errno) string {
	if e != api.OK {
		return "error " + strconv.Itoa(int(e))
	}
	return answer
}

func tellNumber(n int, e api.Errno) string { return tell(strconv.Itoa(n), e) }

func (o *Office) doEnter(rest string) string {
	var entered, day int
	words := strings.SplitN(rest, " ", 3)
	if len(words) < 3 || !readNumber(words[0], &entered) || !readNumber(words[1], &day) {
		return puzzled
	}
	return tellNumber(o.Enter(entered, day, words[2]))
}

func (o *Office) doUndo(rest string) string {
	var entered int
	if !readNumber(rest, &entered) {
		return puzzled
	}
	return tellNumber(o.Undo(entered))
}

func (o *Office) doAsk(rest string) string {
	q, is := readQuery(rest)
	if !is {
		return puzzled
	}
	return tell(Answer(o.base, o.entries, q))
}

func (o *Office) doWhy(rest string) string {
	q, is := readQuery(rest)
	if !is {
		return puzzled
	}
	_, keys, e := Search(o.base, o.entries, q)
	return tell(textOr(written(keys, between, writeKey), nothing), e)
}

func (o *Office) doRefused(rest string) string {
	var at [2]int
	known, day, _ := strings.Cut(rest, " ")
	if !readNumber(known, &at[0]) || !readNumber(day, &at[1]) {
		return puzzled
	}
	_, refused, e := State(o.base, o.entries, at)
	return tellNumber(len(refused), e)
}

// readQuery reads the days, the word and the name of a query, and tells whether a text is one.
func readQuery(text string) (api.Query, bool) {
	words := strings.Split(text, " ")
	if len(words) != 4 {
		return api.Query{}, false
	}
	q := api.Query{Kind: slices.Index(queryWords(), words[2]), Name: words[3]}
	is := q.Kind >= 0 && readNumber(words[0], &q.At[0]) && readNumber(words[1], &q.At[1])
	if q.Kind == api.AskClass {
		q.Name = ""
		is = readNumber(words[3], &q.Number) && is
	}
	return q, is
}
