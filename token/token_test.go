package token

import (
	"bytes"
	goscanner "go/scanner"
	gotoken "go/token"
	"slices"
	"strconv"
	"strings"
	"testing"

	"demotic/api"
	"demotic/place"
)

const (
	words  = "break continue else for func if import interface package range return struct type var"
	others = "case chan const default defer fallthrough go goto map select switch"
	signs  = "<<= >>= &^= ... && || == != <= >= := ++ -- += -= *= /= %= &= |= ^= << >> &^ <- " +
		"+ - * / % & | ^ < > = ! ( ) [ ] { } , ; . : ~"
)

// told is what Scan tells of s, in a row: each token's kind, place and text, or the error and its place.
func told(s string) string {
	l, at, e := Scan([]byte(s))
	if e != api.OK {
		if len(l) > 0 {
			return "tokens beside an error"
		}
		return "error " + strconv.Itoa(int(e)) + " " + strconv.Itoa(at)
	}
	if at != 0 {
		return "a place without an error"
	}
	return written(l)
}

func written(l []Token) string {
	var parts []string
	for _, t := range l {
		parts = append(parts, strconv.Itoa(t.Kind)+"@"+strconv.Itoa(t.At)+strconv.Quote(t.Text))
	}
	return strings.Join(parts, " ")
}

// one: is s, with a line's end behind it, just one token of that kind (and maybe a semicolon)?
func one(s string, kind int) bool {
	l, _, e := Scan([]byte(s + "\n"))
	return e == api.OK && len(l) > 0 && len(l) < 3 && l[0] == Token{Kind: kind, Text: s} &&
		(len(l) == 1 || l[1] == Token{Kind: 6, Text: "\n", At: len(s)})
}

func TestKinds(t *testing.T) {
	for kind, l := range map[int][]string{
		1: {"a", "z", "A", "Z", "_", "a1", "_9z", "Break", "breaks", "int", "nil", strings.Repeat("x", 1000)},
		2: strings.Fields(words),
		3: strings.Fields(others),
		4: {"0", "9", "017", "0x1F", "0b01", "0o7", "1_000", "1__0", "0x_", "9z", "1if", "1e5", "08"},
		5: {`""`, `"a"`, `"\""`, `"\\"`, `"\\\""`, `"\q"`, `"\ä"`, `"//"`, `"/*"`, "\"`\"", "\"\t\r\"", `"ä'"`, "``", "`a\nb`", "`\\`", "`\"`", "`//\n/*`", "`\r`"},
		6: strings.Fields(signs),
	} {
		for _, s := range l {
			if !one(s, kind) {
				t.Errorf("P2.1: %q is no token of the kind %d: %s", s, kind, told(s))
			}
		}
	}
}

func TestScan(t *testing.T) {
	for _, c := range []struct{ text, want string }{
		{"", ""},
		{" \t\r\n", ""},
		{"x := 1 // y", `1@0"x" 6@2":=" 4@5"1" 6@11"\n"`},
		{"a\n+b", `1@0"a" 6@1"\n" 6@2"+" 1@3"b" 6@4"\n"`},
		{"\ufeffa", `1@3"a" 6@4"\n"`},
		{"a<<=b", `1@0"a" 6@1"<<=" 1@4"b" 6@5"\n"`},
		{"<<<==", `6@0"<<" 6@2"<=" 6@4"="`},
		{"&&&^=", `6@0"&&" 6@2"&^="`},
		{"&^&", `6@0"&^" 6@2"&"`},
		{"....", `6@0"..." 6@3"."`},
		{"..", `6@0"." 6@1"."`},
		{"+++", `6@0"++" 6@2"+"`},
		{"<--", `6@0"<-" 6@2"-"`},
		{":==", `6@0":=" 6@2"="`},
		{"!==", `6@0"!=" 6@2"="`},
		{"|||", `6@0"||" 6@2"|"`},
		{"~=", `6@0"~" 6@1"="`},
		{"1.5", `4@0"1" 6@1"." 4@2"5" 6@3"\n"`},
		{".5", `6@0"." 4@1"5" 6@2"\n"`},
		{"1e+5", `4@0"1e" 6@2"+" 4@3"5" 6@4"\n"`},
		{"f(x1,\"a\\\"b\")", `1@0"f" 6@1"(" 1@2"x1" 6@4"," 5@5"\"a\\\"b\"" 6@11")" 6@12"\n"`},
		{"a`b`\"c\"1", "1@0\"a\" 5@1\"`b`\" 5@4\"\\\"c\\\"\" 4@7\"1\" 6@8\"\\n\""},
		{"`a\nb`+", "5@0\"`a\\nb`\" 6@5\"+\""},
		{"a//b", `1@0"a" 6@4"\n"`},
		{"a/b", `1@0"a" 6@1"/" 1@2"b" 6@3"\n"`},
		{"a/=b", `1@0"a" 6@1"/=" 1@3"b" 6@4"\n"`},
		{"a/**/b", `1@0"a" 1@5"b" 6@6"\n"`},
		{"go x", `3@0"go" 1@3"x" 6@4"\n"`},
		{"x go", `1@0"x" 3@2"go"`},
	} {
		if got := told(c.text); got != c.want {
			t.Errorf("P2.1: %q: %s, want %s", c.text, got, c.want)
		}
	}
}

func TestSemicolons(t *testing.T) {
	for _, c := range []struct{ text, want string }{
		{"a\n", `1@0"a" 6@1"\n"`},
		{"a", `1@0"a" 6@1"\n"`},
		{"a\n\n\n", `1@0"a" 6@1"\n"`},
		{"a \r\n", `1@0"a" 6@3"\n"`},
		{"a;\n", `1@0"a" 6@1";"`},
		{"\n\n", ""},
		{"// a\n/* b\n*/", ""},
		{"a // b\nc", `1@0"a" 6@6"\n" 1@7"c" 6@8"\n"`},      // behind the note: at the byte 10
		{"a // b", `1@0"a" 6@6"\n"`},                        // .. or the end
		{"a /* b */ c", `1@0"a" 1@10"c" 6@11"\n"`},          // a note within a line ends none
		{"a /* b */\nc", `1@0"a" 6@9"\n" 1@10"c" 6@11"\n"`}, // .. the byte 10 does
		{"a /* b */", `1@0"a" 6@9"\n"`},                     // .. or the end
		{"a /*\n*/ c", `1@0"a" 6@2"\n" 1@8"c" 6@9"\n"`},     // a note with a byte 10: where it begins
		{"a /**/ /*\n*/ // d\n", `1@0"a" 6@7"\n"`},          // the first one that has one
		{"a /*\n\n*/\n", `1@0"a" 6@2"\n"`},                  // one alone
		{"+ /*\n*/ a /*\n*/", `6@0"+" 1@8"a" 6@10"\n"`},     // none behind +
		{"a\n/* b */\n+", `1@0"a" 6@1"\n" 6@10"+"`},         //
		{"return // a\nb", `2@0"return" 6@11"\n" 1@12"b" 6@13"\n"`},
	} {
		if got := told(c.text); got != c.want {
			t.Errorf("P2.1: %q: %s, want %s", c.text, got, c.want)
		}
	}
}

func TestWhereSemicolonsArePutIn(t *testing.T) {
	behind := append(strings.Fields("a _ 0 0x1F break continue return fallthrough ++ -- ) ] }"), `"a"`, "`a`", "`\n`")
	ends := slices.Concat(behind, strings.Fields(words), strings.Fields(others), strings.Fields(signs))
	for _, s := range ends {
		for _, end := range []string{"", "\n", " \n", "// x\n", "// x", " /*\n*/"} {
			b := s + " " + end
			l, _, e := Scan([]byte(b))
			if put := len(l) == 2 && l[1].Kind == 6 && l[1].Text == "\n"; e != api.OK || put != slices.Contains(behind, s) {
				t.Errorf("P2.1: %q: %v, %d", b, l, e)
			}
		}
	}
}

func TestErrors(t *testing.T) {
	long := strings.Repeat("a", api.MaxSource)
	for _, c := range []struct{ name, text, want string }{
		{"as long as may be", long, `1@0"` + long + `" 6@65536"\n"`},
		{"too long", long + "a", "error 12 65536"},
		{"too long, and no text", "\xff" + long, "error 12 65536"},
		{"too long, and no token", "@" + long + "\x00", "error 12 65536"},
		{"no sign", "a\xff", "error 2 1"},
		{"no sign at the beginning", "\xffa", "error 2 0"},
		{"a byte 0", "a\n\x00", "error 2 2"},
		{"FEFF behind the beginning", "a \ufeff", "error 2 2"},
		{"FEFF within a text", "\"\ufeff\"", "error 2 1"},
		{"no text ahead of no token", "@ \"\n\xff", "error 2 4"},
		{"no text within a note", "a // \xff", "error 2 5"},
		{"at", "@", "error 3 0"},
		{"hash", "a #", "error 3 2"},
		{"question", "a?", "error 3 1"},
		{"dollar", "a$b", "error 3 1"},
		{"stroke", `a\b`, "error 3 1"},
		{"quote", "a 'b'", "error 3 2"},
		{"a letter of others", "ä", "error 3 0"},
		{"a letter of others in a name", "aä", "error 3 1"},
		{"a figure of others", "1\u0661", "error 3 1"},
		{"form feed", "a\fb", "error 3 1"},
		{"byte 11", "\v", "error 3 0"},
		{"byte 127", "\x7f", "error 3 0"},
		{"a blank of others", "a\u00a0b", "error 3 1"},
		{"FFFD", "\ufffd", "error 3 0"},
		{"a text that does not end", "x \"a", "error 3 2"},
		{"a text that does not end, of one sign", "\"", "error 3 0"},
		{"a text over a line's end", "\"a\n\"", "error 3 0"},
		{"a stroke ahead of the last quote", `"a\"`, "error 3 0"},
		{"a stroke ahead of the end", `"a\`, "error 3 0"},
		{"a stroke ahead of a line's end", "\"a\\\n\"", "error 3 0"},
		{"a back-quote alone", "x `y\n", "error 3 2"},
		{"a note that does not end", "a /* z", "error 3 2"},
		{"a note that does not end, with a line's end", "a /*\n*", "error 3 2"},
		{"a note that ends in its beginning", "/*/", "error 3 0"},
		{"the first of two", "a ? \"b", "error 3 2"},
	} {
		if got := told(c.text); got != c.want {
			t.Errorf("P2.1: %s: %.80s, want %.80s", c.name, got, c.want)
		}
	}
}

func TestNotes(t *testing.T) {
	for _, c := range []struct{ text, want string }{
		{"", ""},
		{"a\n", ""},
		{"//", `0@0"//"`},
		{"// a\r\nb", `0@0"// a\r"`},
		{"// a // b /* c", `0@0"// a // b /* c"`},
		{"/**/", `0@0"/**/"`},
		{"/*/*/ a", `0@0"/*/*/"`},
		{"/***/", `0@0"/***/"`},
		{"/* a */ b /* c\nd */ // \u00e4", `0@0"/* a */" 0@10"/* c\nd */" 0@20"// ä"`},
		{"\ufeff// a", `0@3"// a"`},
		{"\"// a\" `/* b */`", ""},
		{"a / / b * /", ""},
		{"/* a */ ?", ""},
		{"// a\n\"", ""},
		{"// a\n/*", ""},
		{"// a\n\x00", ""},
		{"// " + strings.Repeat("a", api.MaxSource), ""},
	} {
		if got := written(Notes([]byte(c.text))); got != c.want {
			t.Errorf("P2.2: %.80q: %s, want %s", c.text, got, c.want)
		}
	}
}

func TestName(t *testing.T) {
	for _, s := range append(strings.Fields("a Z _ __ a1 _1 iF If gos var1 int true main"), strings.Repeat("a", 1<<17)) {
		if !Name(s) {
			t.Errorf("P2.1: %.80q is no name", s)
		}
	}
	for _, s := range slices.Concat(strings.Fields(words), strings.Fields(others), []string{"", "1", "1a", "a-b", "a b", " a", "a ", "a\n", "ä", "aä", "a.b", "\ufeffa", "a\x00", "\xff", `"a"`, "+"}) {
		if Name(s) {
			t.Errorf("P2.1: %q is a name", s)
		}
	}
}

func TestWord(t *testing.T) {
	want := map[string]int{"": 0, "x": 0, "If": 0, "if ": 0, " if": 0, "ifs": 0, "int": 0, "+": 0, "true": 0, "nil": 0, "min": 0, "any": 0}
	for _, s := range strings.Fields(words) {
		want[s] = 1
	}
	for _, s := range strings.Fields(others) {
		want[s] = 2
	}
	for s, n := range want {
		if got := Word(s); got != n {
			t.Errorf("P2.1: Word(%q) = %d, want %d", s, got, n)
		}
	}
}

// pieces: what texts are put together of. (A blank stands behind a figure and a point: Go has floats.)
func pieces() []string {
	l := []string{"a", "_b1", "if", "return", "break", "fallthrough", "go", "7 ", ". ", "\"q\\\"\"", "`r\n`", " ", "\t", "\r", "\n", "// n\n", "// n", "/* m */", "/*\n*/", "\ufeff"}
	for _, s := range strings.Fields(signs) {
		if s != "." {
			l = append(l, s)
		}
	}
	return l
}

// each hands all rows of up to three pieces to do.
func each(do func(b []byte)) {
	l := append(pieces(), "")
	for _, x := range l {
		for _, y := range l {
			for _, z := range l {
				do([]byte(x + y + z))
			}
		}
	}
}

// TestTokensStandAsTheyAre: nothing but blanks is between tokens and notes.
func TestTokensStandAsTheyAre(t *testing.T) {
	each(func(b []byte) {
		l, _, e := Scan(b)
		notes := Notes(b)
		if e != api.OK && len(notes) > 0 {
			t.Errorf("P2.2: %q: notes beside an error", b)
		}
		if e != api.OK {
			return
		}
		all := slices.Concat(l, notes)
		slices.SortStableFunc(all, func(x, y Token) int { return x.At - y.At })
		at := 0
		for _, x := range all {
			if x.Kind == 6 && x.Text == "\n" {
				if x.At < len(b) && b[x.At] != '\n' && !bytes.HasPrefix(b[x.At:], []byte("/*")) {
					t.Errorf("P2.3: %q: a semicolon at %d", b, x.At)
				}
				continue
			}
			if x.At < at || !bytes.HasPrefix(b[x.At:], []byte(x.Text)) || strings.Trim(string(b[at:x.At]), " \t\r\n\ufeff") != "" {
				t.Errorf("P2.3: %q: %v", b, all)
				return
			}
			at = x.At + len(x.Text)
		}
		if strings.Trim(string(b[at:]), " \t\r\n\ufeff") != "" || !slices.IsSortedFunc(l, func(x, y Token) int { return x.At - y.At }) {
			t.Errorf("P2.3: %q: %v", b, all)
		}
	})
}

// TestAsGo holds tokens against those of Go's own scanner (but where a semicolon was put in).
func TestAsGo(t *testing.T) {
	each(func(b []byte) {
		want, ok := goTokens(b)
		l, at, e := Scan(b)
		if ok != (e == api.OK) {
			t.Errorf("P2.1: %q: %d at %d, and Go says %v", b, e, at, ok)
			return
		}
		if !ok {
			return
		}
		same := slices.EqualFunc(l, want, func(x, y Token) bool {
			return x.Kind == y.Kind && x.Text == y.Text && (x.At == y.At || x.Text == "\n")
		})
		if !same {
			t.Errorf("P2.1: %q: %v, and Go has %v", b, l, want)
		}
	})
}

// goTokens tells the tokens of b as Go's scanner has them, and whether all is well.
func goTokens(b []byte) ([]Token, bool) {
	if place.Wrong(b) >= 0 {
		return nil, false
	}
	var s goscanner.Scanner
	file := gotoken.NewFileSet().AddFile("", -1, len(b))
	s.Init(file, b, func(gotoken.Position, string) {}, 0)
	var l []Token
	for {
		pos, sort, text := s.Scan()
		if sort == gotoken.EOF {
			return l, s.ErrorCount == 0
		}
		x := Token{Kind: 6, Text: text, At: file.Offset(pos)}
		switch {
		case sort == gotoken.IDENT:
			x.Kind = 1
		case sort == gotoken.INT:
			x.Kind = 4
		case sort == gotoken.STRING:
			x.Kind = 5
		case sort.IsKeyword() && slices.Contains(strings.Fields(words), text):
			x.Kind = 2
		case sort.IsKeyword():
			x.Kind = 3
		case sort != gotoken.SEMICOLON:
			x.Text = sort.String()
		}
		l = append(l, x)
	}
}

func TestNothingIsChanged(t *testing.T) {
	whole := []byte("a \"b\" // c\r\n/* d\n*/ <<= spare room")
	was := bytes.Clone(whole)
	b := whole[:len("a \"b\" // c\r\n/* d\n*/ <<=")]
	l, _, _ := Scan(b)
	notes := Notes(b)
	want, wantNotes := slices.Clone(l), slices.Clone(notes)
	if !bytes.Equal(whole, was) {
		t.Error("R4: what is handed in was changed")
	}
	clear(whole)
	if !slices.Equal(l, want) || !slices.Equal(notes, wantNotes) || written(l) != `1@0"a" 5@2"\"b\"" 6@11"\n" 6@20"<<="` {
		t.Errorf("R4: what is handed in was kept: %v, %v", l, notes)
	}
	clear(l)
	clear(notes)
	again, _, _ := Scan(was[:len(b)])
	if !slices.Equal(again, want) || !slices.Equal(Notes(was[:len(b)]), wantNotes) {
		t.Error("R5: another answer")
	}
}

func FuzzScan(f *testing.F) {
	for _, s := range []string{"x := 1 // y", "\ufeffa /*\n*/ `b", "\"a\\", "\xff", "'"} {
		f.Add([]byte(s))
	}
	f.Fuzz(func(t *testing.T, b []byte) {
		l, at, e := Scan(b)
		switch e {
		case api.OK:
			if at != 0 {
				t.Error("P2.1: a place without an error")
			}
		case api.ErrText, api.ErrToken, api.ErrLong:
			if len(l) > 0 || at < 0 || at >= len(b) || len(Notes(b)) > 0 {
				t.Errorf("P2.1: error %d at %d", e, at)
			}
		default:
			t.Errorf("P2.1: error %d", e)
		}
	})
}
