// Package token is layer 2: words and signs of a file.
package token

import (
	"strings"

	"demotic/api"
	"demotic/place"
)

// The kinds of tokens, and of notes.
const (
	noteKind = iota
	nameKind
	wordKind
	otherKind
	numberKind
	textKind
	signKind
)

// putIn is the text of a semicolon that is put in.
const putIn = "\n"

// Token is a word or a sign.
type Token struct {
	Kind int
	Text string
	At   int
}

// Scan tells all tokens, or what is wrong, and where.
func Scan(b []byte) (l []Token, at int, e api.Errno) {
	s, at, e := scan(b)
	return s.tokens, at, e
}

// Name: is it a name, and no word?
func Name(s string) bool {
	size := nameSize(s)
	return size > 0 && size == len(s) && Word(s) == 0
}

// Word tells 1 of a word of the fragment, 2 of another one, and 0 of what is none.
func Word(s string) int {
	switch s {
	case "break", "continue", "else", "for", "func", "if", "import", "interface",
		"package", "range", "return", "struct", "type", "var":
		return 1
	case "case", "chan", "const", "default", "defer", "fallthrough", "go", "goto", "map", "select", "switch":
		return 2
	}
	return 0
}

// Notes tells all notes; none of what can't be scanned.
func Notes(b []byte) []Token {
	s, _, _ := scan(b)
	return s.notes
}

// fault is what a scanner ends with where no token or note begins, or one does not end.
type fault struct{ at int }

// scanner has come to the byte at of its text.
type scanner struct {
	text          string
	at            int
	tokens, notes []Token
}

// scan goes through b whole; beside an error nothing has been scanned.
func scan(b []byte) (s scanner, at int, e api.Errno) {
	if len(b) > api.MaxSource {
		return s, api.MaxSource, api.ErrLong
	}
	if at := place.Wrong(b); at >= 0 {
		return s, at, api.ErrText
	}
	defer func() {
		r := recover()
		if f, ok := r.(fault); ok {
			s, at, e = scanner{}, f.at, api.ErrToken
		} else if r != nil {
			panic(r)
		}
	}()
	s.text = string(b)
	s.all()
	return s, 0, api.OK
}

// all takes all tokens and notes.
func (s *scanner) all() {
	for at, r := range s.text {
		if at >= s.at { // else it belongs to what was taken
			s.begin(at, r)
		}
	}
	s.endLine(len(s.text))
}

// begin takes what begins at the sign r.
func (s *scanner) begin(at int, r rune) {
	rest := s.text[at:]
	switch {
	case r == '\n':
		s.endLine(at)
	case blank(r):
	case strings.HasPrefix(rest, "//"):
		s.note(at, row(rest, func(r rune) bool { return r != '\n' }))
	case strings.HasPrefix(rest, "/*"):
		s.note(at, closed(rest, len("/*"), "*/"))
	case letter(r):
		size := nameSize(rest)
		s.take(kindOf(rest[:size]), at, size)
	case figure(r):
		s.take(numberKind, at, row(rest, inName))
	case r == '"':
		s.take(textKind, at, textSize(rest))
	case r == '`':
		s.take(textKind, at, closed(rest, 1, "`"))
	default:
		s.take(signKind, at, signSize(rest))
	}
}

// take takes a token.
func (s *scanner) take(kind, at, size int) {
	s.tokens = append(s.tokens, s.piece(kind, at, size))
}

// note takes a note: one with a line's end in it ends a line where it begins.
func (s *scanner) note(at, size int) {
	n := s.piece(noteKind, at, size)
	s.notes = append(s.notes, n)
	if strings.Contains(n.Text, "\n") {
		s.endLine(at)
	}
}

// piece goes on behind what has that size; nothing has the size 0.
func (s *scanner) piece(kind, at, size int) Token {
	if size == 0 {
		panic(fault{at})
	}
	s.at = at + size
	return Token{Kind: kind, Text: s.text[at:s.at], At: at}
}

// endLine puts a semicolon in, if the last token asks for one.
func (s *scanner) endLine(at int) {
	if len(s.tokens) > 0 && endsLine(s.tokens[len(s.tokens)-1]) {
		s.tokens = append(s.tokens, Token{Kind: signKind, Text: putIn, At: at})
	}
}

// endsLine: is a semicolon put in behind it, at a line's end?
func endsLine(t Token) bool {
	switch t.Kind {
	case nameKind, numberKind, textKind:
		return true
	}
	switch t.Text {
	case "break", "continue", "return", "fallthrough", "++", "--", ")", "]", "}":
		return true
	}
	return false
}

// kindOf tells the kind of what is written like a name.
func kindOf(s string) int {
	switch Word(s) {
	case 1:
		return wordKind
	case 2:
		return otherKind
	}
	return nameKind
}

// nameSize tells how long the name (or word) is with which s begins; 0 without one.
func nameSize(s string) int {
	if row(s, letter) == 0 {
		return 0
	}
	return row(s, inName)
}

// textSize tells how long the text is with which s begins, from quote to quote in a line; 0, if it does not end.
func textSize(s string) int {
	taken := false // by the stroke ahead
	for at, r := range s[1:] {
		switch {
		case r == '\n':
			return 0
		case taken:
			taken = false
		case r == '\\':
			taken = true
		case r == '"':
			return at + 2
		}
	}
	return 0
}

// closed tells how long s is up to the first sign by behind the from bytes that open it, and with it; 0 without one.
func closed(s string, from int, by string) int {
	at := strings.Index(s[from:], by)
	if at < 0 {
		return 0
	}
	return from + at + len(by)
}

// signSize tells how long the sign is with which s begins; 0 without one. The longest one counts.
func signSize(s string) int {
	switch s[:min(3, len(s))] {
	case "<<=", ">>=", "&^=", "...":
		return 3
	}
	switch s[:min(2, len(s))] {
	case "&&", "||", "==", "!=", "<=", ">=", ":=", "++", "--", "+=", "-=", "*=", "/=", "%=", "&=", "|=", "^=",
		"<<", ">>", "&^", "<-":
		return 2
	}
	switch s[:min(1, len(s))] {
	case "+", "-", "*", "/", "%", "&", "|", "^", "<", ">", "=", "!", "(", ")", "[", "]", "{", "}", ",", ";", ".",
		":", "~":
		return 1
	}
	return 0
}

// row tells how long s is up to the first sign that is not of a sort.
func row(s string, of func(rune) bool) int {
	for at, r := range s {
		if !of(r) {
			return at
		}
	}
	return len(s)
}

// blank: is it a blank? (FEFF stands at a text's beginning alone.)
func blank(r rune) bool {
	return r == ' ' || r == '\t' || r == '\r' || r == '\uFEFF'
}

func letter(r rune) bool {
	return 'a' <= r && r <= 'z' || 'A' <= r && r <= 'Z' || r == '_'
}

func figure(r rune) bool {
	return '0' <= r && r <= '9'
}

// inName: may it stand in a name, or a number, behind the first sign?
func inName(r rune) bool {
	return letter(r) || figure(r)
}
