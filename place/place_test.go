package place

import (
	"bytes"
	"math"
	"testing"
	"unicode/utf8"
)

// alphabet: pieces of whole signs, of broken ones, and what may stand at the beginning alone.
var alphabet = []string{"a", "\n", "\r", "\x00", "ä", "€", "\U0001f600", "\ufeff", "\ufffd", "\xff", "\xe2\x82", "\x80"}

// texts tells all rows of at most n pieces of the alphabet.
func texts(n int) [][]byte {
	all := [][]byte{nil}
	last := all
	for range n {
		var next [][]byte
		for _, b := range last {
			for _, s := range alphabet {
				next = append(next, append(bytes.Clone(b), s...))
			}
		}
		all, last = append(all, next...), next
	}
	return all
}

// begins tells at which bytes of b signs begin, and its end.
func begins(b []byte) []int {
	var l []int
	for at := 0; at < len(b); {
		l = append(l, at)
		_, n := utf8.DecodeRune(b[at:])
		at += n
	}
	return append(l, len(b))
}

// counted is a place by the document's words: lines' ends ahead, and signs that begin ahead in the line.
func counted(b []byte, at int) Place {
	line := bytes.LastIndexByte(b[:at], '\n') + 1
	column := 1
	for _, from := range begins(b) {
		if line <= from && from < at {
			column++
		}
	}
	return Place{Line: bytes.Count(b[:at], []byte("\n")) + 1, Column: column}
}

func TestWrong(t *testing.T) {
	for _, c := range []struct {
		text string
		want int
	}{
		{"", -1},
		{"a\nä€\U0001f600", -1},
		{"\x01\x7f", -1},
		{"a\ufffdb", -1},
		{"\xef\xbf\xbd", -1},
		{"\ufffd\xff", 3},
		{"a\xffb", 1},
		{"ä\x80", 2},
		{"a\xe2\x82", 1},
		{"a\xe2\x82b", 1},
		{"\xc0\x80", 0},
		{"a\xed\xa0\x80", 1},
		{"\xf4\x90\x80\x80", 0},
		{"\x00", 0},
		{"ab\x00\xff", 2},
		{"ab\xff\x00", 2},
		{"\ufeff", -1},
		{"\ufeffa", -1},
		{"\ufeff\ufeff", 3},
		{"\ufeff\x00", 3},
		{"a\ufeff", 1},
		{"a\n\ufeffb", 2},
		{"\ufffe\u2060", -1},
	} {
		if got := Wrong([]byte(c.text)); got != c.want {
			t.Errorf("P1.1: Wrong(%q) = %d, want %d", c.text, got, c.want)
		}
	}
}

func TestLines(t *testing.T) {
	for text, want := range map[string]int{"": 1, "a": 1, "\n": 2, "a\nb": 2, "a\nb\n": 3, "\r": 1, "\r\n\n": 3, "\xff\n\x00": 2, "\u2028\u0085": 1} {
		if got := Lines([]byte(text)); got != want {
			t.Errorf("P1.1: Lines(%q) = %d, want %d", text, got, want)
		}
	}
}

func TestOf(t *testing.T) {
	for _, c := range []struct {
		text string
		at   int
		want Place
	}{
		{"", 0, Place{1, 1}},
		{"", 1, Place{}},
		{"", -1, Place{}},
		{"aä\nb", 1, Place{1, 2}},
		{"aä\nb", 2, Place{1, 3}}, // within a sign: as of the next one
		{"aä\nb", 3, Place{1, 3}},
		{"aä\nb", 4, Place{2, 1}},
		{"aä\nb", 5, Place{2, 2}},
		{"aä\nb", 6, Place{}},
		{"€", 1, Place{1, 2}},
		{"€", 2, Place{1, 2}},
		{"€", 3, Place{1, 2}},
		{"\xe2\x82", 1, Place{1, 2}}, // broken: each byte counts
		{"\xe2\x82", 2, Place{1, 3}},
		{"\ufeffa", 0, Place{1, 1}},
		{"\ufeffa", 3, Place{1, 2}},
		{"\r\n", 1, Place{1, 2}},
		{"\r\n", 2, Place{2, 1}},
		{"\n\n", 1, Place{2, 1}},
		{"a\n", math.MaxInt, Place{}},
		{"a\n", math.MinInt, Place{}},
	} {
		if got := Of([]byte(c.text), c.at); got != c.want {
			t.Errorf("P1.2: Of(%q, %d) = %v, want %v", c.text, c.at, got, c.want)
		}
	}
}

func TestAt(t *testing.T) {
	for _, c := range []struct {
		text string
		p    Place
		want int
	}{
		{"", Place{1, 1}, 0},
		{"", Place{1, 2}, -1},
		{"", Place{2, 1}, -1},
		{"", Place{}, -1},
		{"aä\nb", Place{1, 2}, 1},
		{"aä\nb", Place{1, 3}, 3}, // one behind the last sign: the byte 10
		{"aä\nb", Place{1, 4}, -1},
		{"aä\nb", Place{2, 1}, 4},
		{"aä\nb", Place{2, 2}, 5}, // .. or the end
		{"aä\nb", Place{2, 3}, -1},
		{"aä\nb", Place{3, 1}, -1},
		{"a\n", Place{2, 1}, 2},
		{"a\n", Place{2, 2}, -1},
		{"\ufeffa", Place{1, 1}, 0},
		{"\ufeffa", Place{1, 2}, 3},
		{"\xe2\x82a", Place{1, 3}, 2},
		{"ab", Place{0, 1}, -1},
		{"ab", Place{1, 0}, -1},
		{"ab", Place{-1, -1}, -1},
		{"ab", Place{math.MaxInt, math.MinInt}, -1},
		{"ab", Place{1, math.MaxInt}, -1},
	} {
		if got := At([]byte(c.text), c.p); got != c.want {
			t.Errorf("P1.2: At(%q, %v) = %d, want %d", c.text, c.p, got, c.want)
		}
	}
}

func TestPlacesAreCounted(t *testing.T) {
	for _, b := range texts(3) {
		for at := range len(b) + 1 {
			if got, want := Of(b, at), counted(b, at); got != want {
				t.Errorf("P1.2: Of(%q, %d) = %v, want %v", b, at, got, want)
			}
		}
		if Of(b, len(b)+1) != (Place{}) || Of(b, -1) != (Place{}) {
			t.Errorf("P1.2: Of(%q) beyond its ends", b)
		}
	}
}

func TestAtUndoesOf(t *testing.T) {
	for _, b := range texts(3) {
		at := map[Place]int{}
		for _, from := range begins(b) {
			at[counted(b, from)] = from
			if got := At(b, Of(b, from)); got != from {
				t.Errorf("P1.3: At(%q, Of(%d)) = %d", b, from, got)
			}
		}
		for line := range Lines(b) + 2 {
			for column := range len(b) + 3 {
				p := Place{line, column}
				want, ok := at[p]
				if !ok {
					want = -1
				}
				if got := At(b, p); got != want {
					t.Errorf("P1.2: At(%q, %v) = %d, want %d", b, p, got, want)
				}
			}
		}
	}
}

func TestNothingIsChanged(t *testing.T) {
	whole := []byte("aä\n\ufeff\xff\x00bspare room")
	was := bytes.Clone(whole)
	b := whole[:len("aä\n\ufeff\xff\x00b")]
	for range 2 {
		if Wrong(b) != 4 || Lines(b) != 2 || Of(b, 7) != (Place{2, 2}) || At(b, Place{2, 2}) != 7 {
			t.Error("R5: another answer")
		}
	}
	if !bytes.Equal(whole, was) {
		t.Error("R4: what is handed in was changed")
	}
}
