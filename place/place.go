// Package place is layer 1: bytes, lines and columns.
package place

import (
	"bytes"
	"unicode/utf8"
)

const (
	mark = '\uFEFF' // may stand at a text's beginning alone
	end  = rune(-1) // stands for what is behind the last sign
)

// Place is a line and a column, each from 1 on.
type Place struct{ Line, Column int }

// Wrong tells the byte at which b ceases to be a text; -1, if it is one.
func Wrong(b []byte) int {
	wrong := -1
	signs(b, func(at int, r rune, _ Place) bool {
		if r == 0 || r == mark && at > 0 || r == utf8.RuneError && broken(b[at:]) {
			wrong = at
		}
		return wrong < 0
	})
	return wrong
}

// Of tells the place of the byte at; zeros, if there is no such byte.
func Of(b []byte, at int) Place {
	found := Place{}
	if at < 0 {
		return found
	}
	signs(b, func(from int, _ rune, here Place) bool {
		if from >= at { // above it, where the byte is within a sign: the next one's place counts
			found = here
		}
		return from < at
	})
	return found
}

// At tells the byte at which the sign of a place begins; -1, if there is none.
func At(b []byte, p Place) int {
	found := -1
	signs(b, func(at int, _ rune, here Place) bool {
		if here == p {
			found = at
		}
		return found < 0
	})
	return found
}

// Lines tells how many lines b has.
func Lines(b []byte) int {
	return bytes.Count(b, []byte{'\n'}) + 1
}

// signs does something at each sign of b (a byte that begins none counts as one), and last at its end, as long as
// that tells to go on.
func signs(b []byte, do func(at int, r rune, here Place) bool) {
	here := Place{Line: 1, Column: 1}
	for at, r := range string(b) {
		if !do(at, r, here) {
			return
		}
		here.Column++
		if r == '\n' {
			here = Place{Line: here.Line + 1, Column: 1}
		}
	}
	do(len(b), end, here)
}

// broken: does b begin with a byte that begins no sign? A range tells FFFD of it, as of FFFD itself.
func broken(b []byte) bool {
	_, size := utf8.DecodeRune(b)
	return size == 1
}
