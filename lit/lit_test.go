package lit

import (
	"math/big"
	"strconv"
	"strings"
	"testing"
	"unicode/utf8"

	"demotic/api"
)

// rows hands each row of at most n pieces to do.
func rows(pieces []string, n int, do func(string)) {
	var from func(row string, left int)
	from = func(row string, left int) {
		do(row)
		if left > 0 {
			for _, p := range pieces {
				from(row+p, left-1)
			}
		}
	}
	from("", n)
}

func TestNumber(t *testing.T) {
	for s, want := range map[string]string{
		"0": "0", "7": "7", "9": "9", "10": "10", "17": "17", "1234567890": "1234567890",
		"1_0": "10", "1_2_3": "123", "12_345_678": "12345678", "9_9": "99",
		"0x0": "0", "0X1f": "31", "0x_1F": "31", "0x1_f": "31", "0x_a_b_c": "2748", "0xabcdef": "11259375", "0XABCDEF": "11259375", "0x00ff": "255", "0x09": "9",
		"0b0": "0", "0b101": "5", "0B_1": "1", "0b1_0": "2", "0b0001": "1",
		"0o0": "0", "0o17": "15", "0O_7": "7", "0o1_0": "8", "0o007": "7",
		"00": "0", "017": "15", "0_7": "7", "0_1_0": "8", "000": "0", "0_0": "0", "01234567": "342391",
		"18446744073709551616":        "18446744073709551616", // 2^64
		"0x1_0000_0000_0000_0000":     "18446744073709551616",
		"0xFFFFFFFFFFFFFFFFFFFFFFFFF": "1267650600228229401496703205375",
	} {
		if got, e := Number(s); e != api.OK || got != want {
			t.Errorf("P3.1: Number(%q) = %q, %d, want %q", s, got, e, want)
		}
	}
}

func TestNoNumber(t *testing.T) {
	for _, s := range []string{
		"", "_", "_1", "1_", "1__0", "1_0_", "0_", "0__7", "07_", "0x", "0X", "0b", "0o", "0x_", "0x__1", "0x1_", "0x1__2", "0b_", "0o1_",
		"_0x1", "0_x1", "08", "09", "018", "0_8", "0b2", "0b12", "0o8", "0o18", "0xg", "0x1G", "1a", "1f", "0a", "0f", "0B3", "0O9",
		"-1", "+1", " 1", "1 ", "1\n", "1.5", ".5", "1.", "1e5", "0x1p2", "1i", "0i", "x", "x1", "0y1", "0d1", "1x0", "00x1", "0b0x1",
		"\u0661", "1\u0662", "\uff11", "0x\uff11", "1\x00", "\xff", "1\xff", "\ufeff1", "1,0", "'1'", "\"1\"",
	} {
		if got, e := Number(s); e != api.ErrLit || got != "" {
			t.Errorf("P3.1: Number(%q) = %q, %d", s, got, e)
		}
	}
}

func TestDigitsOfEachBase(t *testing.T) {
	const digits = "0123456789abcdefABCDEF"
	for ahead, of := range map[string]string{"1": digits[:10], "0x": digits, "0X": digits, "0b": "01", "0B": "01", "0o": digits[:8], "0O": digits[:8], "0": digits[:8]} {
		for c := range 256 {
			s := ahead + string([]byte{byte(c)})
			_, e := Number(s)
			if ok := strings.IndexByte(of, byte(c)) >= 0; ok != (e == api.OK) || !ok && e != api.ErrLit {
				t.Errorf("P3.1: Number(%q): %d", s, e)
			}
		}
	}
}

func TestLongNumbers(t *testing.T) {
	for _, ahead := range []string{"1", "0x", "0X", "0b", "0o", "0", "0_"} {
		s := ahead + strings.Repeat("1", 200-len(ahead))
		want, _ := new(big.Int).SetString(s, 0)
		if got, e := Number(s); e != api.OK || got != want.String() {
			t.Errorf("P3.1: Number(%q) = %q, %d", s, got, e)
		}
		if got, e := Number(s + "1"); e != api.ErrLong || got != "" {
			t.Errorf("P3.1: Number(%q) = %q, %d: it has 201 bytes", s+"1", got, e)
		}
	}
	widest := "0x" + strings.Repeat("f", 198)
	want, _ := new(big.Int).SetString(widest, 0)
	if got, e := Number(widest); e != api.OK || got != want.String() {
		t.Errorf("P3.1: the greatest number: %q, %d", got, e)
	}
	for s, want := range map[string]api.Errno{
		strings.Repeat("x", 200):              api.ErrLit,
		strings.Repeat("x", 201):              api.ErrLong,
		strings.Repeat("1", 199) + "\u00e4":   api.ErrLong, // bytes count, not signs
		strings.Repeat("0", 200):              api.OK,
		strings.Repeat("1_", 100):             api.ErrLit,
		"1" + strings.Repeat("_1", 99):        api.OK,
		"1" + strings.Repeat("_1", 100):       api.ErrLong,
		strings.Repeat("1", api.MaxSource+10): api.ErrLong,
	} {
		if got, e := Number(s); e != want || (got == "") != (e != api.OK) {
			t.Errorf("P3.1: Number(%q) = %q, %d, want %d", s, got, e, want)
		}
	}
}

// TestNumberAsGo holds short rows of signs against what Go's own numbers mean.
func TestNumberAsGo(t *testing.T) {
	pieces := []string{"0", "1", "7", "8", "9", "_", "x", "X", "b", "B", "o", "O", "a", "F", "g", ".", "e"}
	rows(pieces, 5, func(s string) {
		want, ok := new(big.Int).SetString(s, 0)
		got, e := Number(s)
		switch {
		case ok && (e != api.OK || got != want.String()):
			t.Errorf("P3.1: Number(%q) = %q, %d, want %s", s, got, e, want)
		case !ok && (e != api.ErrLit || got != ""):
			t.Errorf("P3.1: Number(%q) = %q, %d", s, got, e)
		}
	})
}

func TestText(t *testing.T) {
	for s, want := range map[string]string{
		`""`:                         "",
		`"a"`:                        "a",
		`"a b"`:                      "a b",
		`"ä€"`:                       "ä€",
		"\"\U0001f600\ufffd\u2028\"": "\U0001f600\ufffd\u2028",
		"\"\t\r\x01\x7f\"":           "\t\r\x01\x7f",
		"\"`'/*//\"":                 "`'/*//",
		`"\a\b\f\n\r\t\v\\\""`:       "\x07\x08\x0c\x0a\x0d\x09\x0b\x5c\x22",
		`"\x41\x00\xfF\xC3"`:         "A\x00\xff\xc3",
		`"\x4142"`:                   "A42",
		`"\101\000\377\0071"`:        "A\x00\xff\x071",
		`"\u00e4\u0000\uFEFF\ufffd"`: "\u00e4\x00\ufeff\ufffd",
		`"\ud7ff\ue000\u12345"`:      "\ud7ff\ue000\u12345",
		`"\U0001F600\U00000041"`:     "\U0001f600A",
		`"\U0010ffff\U0000FEFF"`:     "\U0010ffff\ufeff",
		`"\U00000000"`:               "\x00",
		`"\\n"`:                      `\n`,
		`"\\"`:                       `\`,
		`"\\\\"`:                     `\\`,
		`"\""`:                       `"`,
		"``":                         "",
		"`a`":                        "a",
		"`\\n\\`":                    `\n\`,
		"`\"\\\"`":                   `"\"`,
		"`a\nb\r\nc\r`":              "a\nb\nc",
		"`\r`":                       "",
		"`ä\ufffd`":                  "ä\ufffd",
	} {
		if got, e := Text(s); e != api.OK || got != want {
			t.Errorf("P3.1: Text(%q) = %q, %d, want %q", s, got, e, want)
		}
	}
}

func TestNoText(t *testing.T) {
	for _, s := range []string{
		"", "a", `"`, `"""`, `"a`, `a"`, `"\"`, `"\\\"`, `"a"b"`, `"a" `, ` "a"`, `"a""b"`, "\"a\nb\"", "\"\n\"", "\"a\\\nb\"", "\"a\"\n", "'a'", "''",
		"`", "```", "`a", "a`", "`a`b`", "`a\"", "\"a`", "`a` ", "`a``b`",
		`"\q"`, `"\'"`, "\"\\`\"", `"\ "`, `"\ä"`, `"\N"`, `"\e"`, `"\X41"`, `"\8"`, `"\9"`, `"\u{41}"`,
		`"\x"`, `"\x4"`, `"\x4g"`, `"\xg4"`, `"\x 4"`, `"\x-1"`, `"\x4ä"`, `"\x_4"`,
		`"\1"`, `"\12"`, `"\128"`, `"\18 "`, `"\812"`, `"\400"`, `"\777"`, `"\0o1"`, `"\37ä"`,
		`"\u"`, `"\u123"`, `"\u123g"`, `"\ud800"`, `"\udfff"`, `"\uDABC"`, `"\ud83d\ude00"`, `"\u00ä"`,
		`"\U"`, `"\U0001f60"`, `"\U0000d800"`, `"\U0000DFFF"`, `"\U00110000"`, `"\U7fffffff"`, `"\U80000000"`, `"\Uffffffff"`, `"\UFFFFFF41"`, `"\U10000041"`, `"\U1234567g"`,
		"\"\x00\"", "\"\ufeff\"", "\"a\ufeff\"", "\ufeff\"a\"", "\"\xff\"", "\"a\xc3\"", "\"\xed\xa0\x80\"", "\"\\\xff\"", "\"\\\x00\"",
		"`\x00`", "`\ufeff`", "`a\ufeff`", "\ufeff`a`", "`\xff`", "`\xc3`", "`\xe2\x82`",
	} {
		if got, e := Text(s); e != api.ErrLit || got != "" {
			t.Errorf("P3.1: Text(%q) = %q, %d", s, got, e)
		}
	}
}

func TestLongTexts(t *testing.T) {
	full := strings.Repeat("a", api.MaxSource-2)
	for _, c := range []struct {
		name, s, want string
		e             api.Errno
	}{
		{"as long as may be", `"` + full + `"`, full, api.OK},
		{"as long as may be, raw", "`" + full + "`", full, api.OK},
		{"too long", `"` + full + `a"`, "", api.ErrLong},
		{"too long, raw", "`" + full + "a`", "", api.ErrLong},
		{"too long, and no token", full + "aaa", "", api.ErrLong},
		{"too long in bytes", `"` + full[1:] + `ä"`, "", api.ErrLong},
		{"as long as may be, and no token", full + "aa", "", api.ErrLit},
		{"many strokes", `"` + strings.Repeat(`\n`, api.MaxSource/2-1) + `"`, strings.Repeat("\n", api.MaxSource/2-1), api.OK},
	} {
		if got, e := Text(c.s); e != c.e || got != c.want {
			t.Errorf("P3.1: %s: %.40q, %d", c.name, got, e)
		}
	}
}

// TestTextAsGo holds short rows of signs within quotes against what Go's own texts mean.
func TestTextAsGo(t *testing.T) {
	pieces := []string{`"`, "`", `\`, "n", "x", "u", "U", "0", "1", "4", "8", "d", "F", "\n", "\r", "'", "ä", "\x00", "\ufeff", "\xff", "00", "000000"}
	rows(pieces, 4, func(inner string) {
		for _, quote := range []string{`"`, "`"} {
			s := quote + inner + quote
			want, err := strconv.Unquote(s)
			ok := err == nil && utf8.ValidString(s) && !strings.ContainsAny(s, "\x00\ufeff")
			got, e := Text(s)
			switch {
			case ok && (e != api.OK || got != want):
				t.Errorf("P3.1: Text(%q) = %q, %d, want %q", s, got, e, want)
			case !ok && (e != api.ErrLit || got != ""):
				t.Errorf("P3.1: Text(%q) = %q, %d", s, got, e)
			}
		}
	})
}

// TestPoints: each sign by its number, and no sign by the numbers that are none.
func TestPoints(t *testing.T) {
	for n := range 0x110000 + 0x100 {
		s := strconv.FormatInt(int64(n), 16)
		s = strings.Repeat("0", 8-len(s)) + s
		ok := utf8.ValidRune(rune(n))
		got, e := Text(`"\U` + s + `"`)
		if ok != (e == api.OK) || ok && got != string(rune(n)) {
			t.Errorf("P3.1: \\U%s: %q, %d", s, got, e)
		}
		if n > 0xffff {
			continue
		}
		if short, e2 := Text(`"\u` + s[4:] + `"`); short != got || e2 != e {
			t.Errorf("P3.1: \\u%s: %q, %d", s[4:], short, e2)
		}
	}
}

func TestQuote(t *testing.T) {
	for s, want := range map[string]string{
		"":                           `""`,
		"a b~!":                      `"a b~!"`,
		"\x1f\x20\x7e\x7f":           `"\x1f ~\x7f"`,
		"\"\\\n\t":                   `"\"\\\n\t"`,
		"\a\b\f\r\v\x00":             `"\x07\x08\x0c\x0d\x0b\x00"`,
		"'`":                         "\"'`\"",
		"ä":                          `"\xc3\xa4"`,
		"\xff\xAB":                   `"\xff\xab"`,
		"\ufeff":                     `"\xef\xbb\xbf"`,
		`\n`:                         `"\\n"`,
		strings.Repeat("\x80", 1000): `"` + strings.Repeat(`\x80`, 1000) + `"`,
	} {
		if got := Quote(s); got != want {
			t.Errorf("P3.1: Quote(%q) = %s, want %s", s, got, want)
		}
	}
	if n := len(Quote(strings.Repeat("a", 2*api.MaxSource))); n != 2*api.MaxSource+2 {
		t.Errorf("P3.1: Quote of a long text has %d bytes", n)
	}
}

func TestQuoteOfEachByte(t *testing.T) {
	for c := range 256 {
		want := `\x` + strconv.FormatInt(int64(c)+256, 16)[1:]
		switch {
		case c == '"' || c == '\\':
			want = `\` + string(rune(c))
		case c == '\n':
			want = `\n`
		case c == '\t':
			want = `\t`
		case 32 <= c && c <= 126:
			want = string(rune(c))
		}
		if got := Quote(string([]byte{byte(c)})); got != `"`+want+`"` {
			t.Errorf("P3.1: Quote of the byte %d: %s", c, got)
		}
	}
}

func TestPlain(t *testing.T) {
	for s, want := range map[string]bool{
		"0": true, "1": true, "9": true, "10": true, "1234567890": true, strings.Repeat("9", 200): true, "1" + strings.Repeat("0", 199): true,
		"": false, "00": false, "01": false, "007": false, strings.Repeat("9", 201): false, strings.Repeat("0", 200): false,
		"-1": false, "-0": false, "+1": false, " 1": false, "1 ": false, "1_0": false, "1a": false, "a": false, "0x1": false, "1.0": false,
		"\u0661": false, "1\u0661": false, "\xff": false, "1\x00": false, "1/": false, "1:": false, "/": false, ":": false,
	} {
		if got := Plain(s); got != want {
			t.Errorf("P3.1: Plain(%q) = %v", s, got)
		}
	}
}

func TestTextUndoesQuote(t *testing.T) {
	for x := range 256 {
		for y := range 256 {
			s := string([]byte{byte(x), byte(y), 'a'})
			if got, e := Text(Quote(s)); e != api.OK || got != s {
				t.Errorf("P3.2: Text(Quote(%q)) = %q, %d", s, got, e)
			}
		}
	}
	longest := strings.Repeat("\xff", (api.MaxSource-2)/4)
	if got, e := Text(Quote(longest)); e != api.OK || got != longest {
		t.Errorf("P3.2: a long text: %d", e)
	}
}

func TestNumberOfPlainOnes(t *testing.T) {
	for n := range 3000 {
		if s := strconv.Itoa(n); !plainStays(s) {
			t.Errorf("P3.2: %s", s)
		}
	}
	for n := range 200 {
		for _, figure := range []string{"1", "9"} {
			if s := strings.Repeat(figure, n+1); !plainStays(s) {
				t.Errorf("P3.2: %s", s)
			}
		}
		if s := "1" + strings.Repeat("0", n); !plainStays(s) {
			t.Errorf("P3.2: %s", s)
		}
	}
}

func plainStays(s string) bool {
	got, e := Number(s)
	return Plain(s) && e == api.OK && got == s
}

func TestSameAgain(t *testing.T) {
	for range 3 {
		n, e := Number("0x_1F")
		if n != "31" || e != api.OK {
			t.Errorf("R5: %q, %d", n, e)
		}
		s, e := Text(`"\x41\u00e4"`)
		if s != "A\u00e4" || e != api.OK {
			t.Errorf("R5: %q, %d", s, e)
		}
		if _, e := Text(`"\q"`); e != api.ErrLit {
			t.Errorf("R5: %d", e)
		}
	}
}

func FuzzLit(f *testing.F) {
	for _, s := range []string{"0x_1F", "1__0", `"\x41\u00e4"`, "`\r`", "\"\\", "\xff", "\x00\n\t\""} {
		f.Add(s)
	}
	f.Fuzz(func(t *testing.T, s string) {
		n, e := Number(s)
		want, ok := new(big.Int).SetString(strings.TrimLeft(s, "+-"), 0)
		switch {
		case e == api.OK && (!ok || n != want.String()) || e != api.OK && n != "":
			t.Errorf("P3.1: Number(%q) = %q, %d", s, n, e)
		case Plain(s) && (e != api.OK || n != s):
			t.Errorf("P3.2: Number(%q) = %q, %d", s, n, e)
		}
		if text, e := Text(s); e != api.OK && text != "" {
			t.Errorf("P3.1: Text(%q) = %q, %d", s, text, e)
		}
		if text, e := Text(Quote(s)); len(Quote(s)) <= api.MaxSource && (e != api.OK || text != s) {
			t.Errorf("P3.2: Text(Quote(%q)) = %q, %d", s, text, e)
		}
	})
}
