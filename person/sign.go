package person

import (
	"math/bits"
	"strings"
)

// alphabet is the letters of names, in their order.
const alphabet = "-ABCDEFGHIJKLMNOPQRSTUVWXYZabcdefghijklmnopqrstuvwxyz"

// sign is a set of letters: one bit for each letter of the alphabet.
type sign uint64

// anyLetter is the sign that has all letters, and unknown its text.
const (
	anyLetter sign = 1<<len(alphabet) - 1
	unknown        = "?"
)

// readSign returns the sign with a text, and whether there is one. Of a wrong text it
// takes the letters alone; written again, they show that it is wrong.
func readSign(text string) (sign, bool) {
	if text == unknown {
		return anyLetter, true
	}
	var s sign
	for i := range len(text) {
		if letter := strings.IndexByte(alphabet, text[i]); letter >= 0 {
			s |= 1 << letter
		}
	}
	return s, s != 0 && s.text() == text
}

// size returns how many letters a sign has.
func (s sign) size() int { return bits.OnesCount64(uint64(s)) }

// letters yields the letters of a sign, ascending.
func (s sign) letters(yield func(byte) bool) {
	for i := range len(alphabet) {
		if s&(1<<i) != 0 && !yield(alphabet[i]) {
			return
		}
	}
}

// spelt returns the letters of a sign as a text.
func (s sign) spelt() string {
	var text []byte
	for letter := range s.letters {
		text = append(text, letter)
	}
	return string(text)
}

// text returns how a sign is written.
func (s sign) text() string {
	switch {
	case s.size() == 1:
		return s.spelt()
	case s == anyLetter:
		return unknown
	}
	return "[" + s.spelt() + "]"
}
