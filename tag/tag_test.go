package tag

import (
	"bytes"
	"go/build/constraint"
	"regexp"
	"slices"
	"strconv"
	"strings"
	"testing"

	"demotic/api"
)

func tagged(tag string) Expr { return Expr{Tag: tag} }

func op(op string, kids ...Expr) Expr { return Expr{Op: op, Kids: kids} }

// form tells what x is, part by part: each op ahead of its kids, in brackets.
func form(x Expr) string {
	if x.Op == "" && len(x.Kids) == 0 {
		return x.Tag
	}
	parts := []string{x.Op + x.Tag}
	for _, kid := range x.Kids {
		parts = append(parts, form(kid))
	}
	return "(" + strings.Join(parts, " ") + ")"
}

// empty: is it the zero value?
func empty(x Expr) bool { return x.Op == "" && x.Tag == "" && len(x.Kids) == 0 }

// rows hands each row of at most n pieces to do.
func rows(pieces []string, n int, do func(string)) {
	var from func(row string, left int)
	from = func(row string, left int) {
		do(row)
		if left > 0 {
			for _, p := range pieces {
				from(row+p, left-1)
			}
		}
	}
	from("", n)
}

// chain is n times ahead, and then a.
func chain(n int, ahead string) string { return strings.Repeat(ahead, n) + "a" }

// shut is s with each bracket that it opens closed.
func shut(s string) string { return s + strings.Repeat(")", strings.Count(s, "(")) }

func TestRead(t *testing.T) {
	for s, want := range map[string]string{
		"a":                       "a",
		" \ta\t ":                 "a",
		"a.b_C9":                  "a.b_C9",
		".":                       ".",
		"_":                       "_",
		"9":                       "9",
		"go1.21":                  "go1.21",
		"((a))":                   "a",
		"!a":                      "(! a)",
		"!!a":                     "(! (! a))",
		"! ! a":                   "(! (! a))",
		"!(!a)":                   "(! (! a))",
		"a&&b":                    "(&& a b)",
		"a&&b&&c":                 "(&& a b c)",
		"a||b||c":                 "(|| a b c)",
		"a && b || c":             "(|| (&& a b) c)",
		"a || b && c || d":        "(|| a (&& b c) d)",
		"(a || b) && c":           "(&& (|| a b) c)",
		"a&&(b&&c)":               "(&& a (&& b c))",
		"(a&&b)&&c":               "(&& (&& a b) c)",
		"(a||b)||(c||d)":          "(|| (|| a b) (|| c d))",
		"((a&&b))":                "(&& a b)",
		"((a&&b))&&c":             "(&& (&& a b) c)",
		"!a&&b":                   "(&& (! a) b)",
		"!(a&&b)":                 "(! (&& a b))",
		"!(a)||!b":                "(|| (! a) (! b))",
		"a\t||\tb":                "(|| a b)",
		"( a )":                   "a",
		"(\t!\t(a ) )":            "(! a)",
		"go1.18 && (x || !y_1.2)": "(&& go1.18 (|| x (! y_1.2)))",
	} {
		if x, e := Read(s); e != api.OK || form(x) != want {
			t.Errorf("P5.1: Read(%q) = %s, %d, want %s", s, form(x), e, want)
		}
	}
}

func TestReadNone(t *testing.T) {
	for _, s := range []string{
		"", " ", "\t", "a b", "a\tb", "a !b", "a (b)", "(a) b", "(a)(b)", "a &&", "&& a", "a ||", "|| a", "a && || b", "a && && b", "a || || b",
		"(", ")", "()", "(a", "a)", "((a)", "(a))", "!", "!!", "!)", "(!)", "a!", "a && !", "! && a", "!()",
		"&", "|", "a & b", "a | b", "a & & b", "a | | b", "a &&& b", "a ||| b", "a-b", "a,b", "a+b", "a=b", "a/b", "a:b", "a*", "~a", "\"a\"", "`a`", "[a]", "{a}",
		"ä", "aä", "\u0661", "\uff41", "a\u00a0", "\ufeffa", "a\ufeff", "\ufffd", "a\r", "\ra", "a\n", "\na", "a\n&& b", "a\v", "a\f", "a\x00", "\xff", "a\xff", "a && \xc3", "// a", "a // b", "a /* b */",
	} {
		if x, e := Read(s); e != api.ErrTag || !empty(x) {
			t.Errorf("P5.1: Read(%q) = %s, %d", s, form(x), e)
		}
	}
}

// TestReadEachByte: a tag is letters, figures, _ and . alone.
func TestReadEachByte(t *testing.T) {
	const signs = "abcdefghijklmnopqrstuvwxyzABCDEFGHIJKLMNOPQRSTUVWXYZ0123456789_."
	for c := range 256 {
		s := string([]byte{byte(c)})
		want := c != 0 && strings.Contains(signs, s)
		for _, text := range []string{s, "a" + s + "b"} {
			if x, e := Read(text); (e == api.OK) != want || want && form(x) != text {
				t.Errorf("P5.1: Read(%q) = %s, %d", text, form(x), e)
			}
			if Right(tagged(text)) != want {
				t.Errorf("P5.1: Right(%q) = %v", text, !want)
			}
		}
	}
}

func TestReadLong(t *testing.T) {
	for _, c := range []struct {
		name, s string
		e       api.Errno
	}{
		{"as long as may be", strings.Repeat("a", 500), api.OK},
		{"as long as may be, of blanks", strings.Repeat(" ", 499) + "a", api.OK},
		{"too long", strings.Repeat("a", 501), api.ErrLong},
		{"too long, of blanks", strings.Repeat(" ", 500) + "a", api.ErrLong},
		{"too long, and none", strings.Repeat("-", 501), api.ErrLong},
		{"as long as may be, and none", strings.Repeat("-", 500), api.ErrTag},
		{"as long as may be, open", strings.Repeat("(", 500), api.ErrTag},
		{"as long as may be, of !", strings.Repeat("!", 500), api.ErrTag},
		{"many side by side", strings.Repeat("a||", 166) + "a", api.OK},
		{"far too long", strings.Repeat("(", 1<<20), api.ErrLong},
	} {
		if x, e := Read(c.s); e != c.e || e == api.OK && !Right(x) || e != api.OK && !empty(x) {
			t.Errorf("P5.1: %s: %d, want %d", c.name, e, c.e)
		}
	}
}

// TestReadDeep: a constraint counts as one, with brackets round it, too.
func TestReadDeep(t *testing.T) {
	for _, c := range []struct {
		name, s string
		e       api.Errno
	}{
		{"100 by !", chain(99, "!"), api.OK},
		{"101 by !", chain(100, "!"), api.ErrTag},
		{"100 by ! in brackets", shut(chain(99, "!(")), api.OK},
		{"101 by ! in brackets", shut(chain(100, "!(")), api.ErrTag},
		{"100 by ! and &&", chain(98, "!") + "&&b", api.OK},
		{"101 by ! and &&", chain(99, "!") + "&&b", api.ErrTag},
		{"100 by ! and && in turn", shut(strings.Repeat("!(b&&", 49) + "!a"), api.OK},
		{"101 by ! and && in turn", shut(strings.Repeat("!(b&&", 49) + "!!a"), api.ErrTag},
		{"100 by all", shut(strings.Repeat("b&&(c||", 49) + "a&&b"), api.OK},
		{"101 by all", shut(strings.Repeat("b&&(c||", 49) + "!a&&b"), api.ErrTag},
		{"one in brackets", shut(chain(249, "(")), api.OK},
	} {
		x, e := Read(c.s)
		if e != c.e || e == api.OK && !Right(x) || e != api.OK && !empty(x) {
			t.Errorf("P5.1: %s: %d, want %d", c.name, e, c.e)
		}
		if again, e := Read(Write(x)); c.e == api.OK && len(Write(x)) <= 500 && (e != api.OK || form(again) != form(x)) {
			t.Errorf("P5.3: %s: %d", c.name, e)
		}
	}
}

var nots = regexp.MustCompile(`(![ \t]*)+`)

// single is s with one ! for each row of them, or, where they are all undone, none: Go's own reader takes no row.
func single(s string, undone bool) string {
	return nots.ReplaceAllStringFunc(s, func(row string) string {
		if undone && strings.Count(row, "!")%2 == 0 {
			return ""
		}
		return "!"
	})
}

// TestReadByGo holds short rows of signs against Go's own constraints.
func TestReadByGo(t *testing.T) {
	given := [][]string{nil, {"a"}, {"b"}, {"a", "b"}}
	rows([]string{"a", "b", "!", "&&", "||", "(", ")", " ", "&"}, 6, func(s string) {
		x, e := Read(s)
		if _, err := constraint.Parse("//go:build " + single(s, false)); err != nil {
			if e != api.ErrTag || !empty(x) {
				t.Errorf("P5.1: Read(%q) = %s, %d", s, form(x), e)
			}
			return
		}
		if e != api.OK || !Right(x) {
			t.Errorf("P5.1: Read(%q) = %s, %d", s, form(x), e)
		}
		want, err := constraint.Parse("//go:build " + single(s, true))
		if err != nil {
			t.Fatal(err)
		}
		for _, tags := range given {
			if Holds(x, tags) != want.Eval(func(tag string) bool { return slices.Contains(tags, tag) }) {
				t.Errorf("P5.1: Holds(%q, %v) = %v", s, tags, Holds(x, tags))
			}
		}
		if again, e := Read(Write(x)); e != api.OK || form(again) != form(x) {
			t.Errorf("P5.3: %q, written %q, is read as %s, %d", s, Write(x), form(again), e)
		}
	})
}

// wrongs are constraints that are not right.
func wrongs() []Expr {
	a, b := tagged("a"), tagged("b")
	deep := a
	for range 100 {
		deep = op("!", deep)
	}
	endless := a
	for range 10000 {
		endless = op("&&", a, endless)
	}
	return []Expr{
		{}, tagged("a b"), tagged("a-b"), tagged("(a)"), tagged("!a"), tagged(" a"), tagged("a "), tagged("ä"), tagged("\xff"), tagged("a\x00"), tagged("\ufeffa"),
		{Tag: "a", Kids: []Expr{b}}, {Tag: "a", Kids: []Expr{b, b}}, op("", a), op("", a, b),
		op("!"), op("!", a, b), {Op: "!", Tag: "a", Kids: []Expr{a}}, {Op: "!", Tag: "a"}, op("!", Expr{}),
		op("&&"), op("&&", a), {Op: "&&", Tag: "a", Kids: []Expr{a, b}}, op("&&", a, Expr{}), op("&&", Expr{}, a), op("&&", a, b, op("||", a)),
		op("||"), op("||", a), {Op: "||", Tag: "a", Kids: []Expr{a, b}}, op("||", a, Expr{}), op("||", a, op("!", op("&&", a, tagged("-")))),
		op("&", a, b), op("|", a, b), op(" && ", a, b), op("and", a, b), op("(", a), op("!!", a), op("a"), op("a", a), op("^", a, b), op("&&&", a, b),
		deep, op("||", a, deep), endless,
	}
}

func TestRight(t *testing.T) {
	a, b := tagged("a"), tagged("b")
	deep := a
	for range 99 {
		deep = op("!", deep)
	}
	wide := op("||")
	for range 100000 {
		wide.Kids = append(wide.Kids, b)
	}
	for _, x := range []Expr{
		a, tagged("go1.18"), tagged("."), tagged("_9"), tagged(strings.Repeat("x", 1000)), {Tag: "a", Kids: []Expr{}},
		op("!", a), op("!", op("!", a)), op("&&", a, b), op("||", a, b), op("&&", a, a), op("||", a, b, a, b),
		op("&&", op("&&", a, b), op("||", a, b)), op("||", op("||", a, b), op("&&", a, b)), op("!", op("||", a, b)), op("!", op("&&", a, b)),
		deep, deep.Kids[0], op("||", a, deep.Kids[0]), wide,
	} {
		if !Right(x) || Write(x) == "" {
			t.Errorf("P5.1: %.99s is right", form(x))
		}
	}
	for _, x := range wrongs() {
		if Right(x) || Holds(x, nil) || Holds(x, []string{"a", "b", ""}) || Least(x) != -1 || Write(x) != "" {
			t.Errorf("P5.1: %.99s is not right: %v, %d, %q", form(x), Right(x), Least(x), Write(x))
		}
	}
}

// TestOfWrongNot: what is not right is false, and so is what it would be, put the other way round.
func TestOfWrongNot(t *testing.T) {
	for _, x := range []Expr{op("!", Expr{}), op("!", tagged("-")), op("||", tagged("go1.1"), Expr{}), op("&&", op("!", tagged("a")), op("!"))} {
		if Holds(x, nil) || Least(x) != -1 {
			t.Errorf("P5.1: %s is not right", form(x))
		}
	}
}

func TestHolds(t *testing.T) {
	for _, c := range []struct {
		s    string
		tags string
		want bool
	}{
		{"a", "", false}, {"a", "a", true}, {"a", "b a", true}, {"a", "A", false}, {"a", "ab", false}, {"a", "!a", false},
		{"!a", "", true}, {"!a", "a", false}, {"!!a", "a", true}, {"!!a", "", false},
		{"a && b", "a", false}, {"a && b", "a b", true}, {"a && b && c", "a b", false}, {"a && b && c", "a c", false}, {"a && b && c", "b c", false}, {"a && b && c", "c b a", true},
		{"a || b", "", false}, {"a || b", "a", true}, {"a || b", "b", true}, {"a || b || c", "c", true}, {"a || b || c", "d", false},
		{"a || b && c", "a", true}, {"a || b && c", "b", false}, {"(a || b) && c", "a", false}, {"(a || b) && c", "b c", true}, {"!(a || b)", "c", true}, {"!(a && b)", "a", true}, {"!(a && b)", "a b", false},
		{"go1.0", "", true}, {"go1.1", "", true}, {"go1.24", "", true}, {"go1.25", "", false}, {"go1.99", "", false}, {"!go1.25", "", true}, {"!go1.24", "", false}, {"!go1.24", "go1.24", false},
		{"go1.25", "go1.25", false}, {"go1.99", "go1.99 a", false}, {"go1.24 && a", "", false}, {"go1.24 && a", "a", true}, {"go1.25 || a", "a", true},
		{"go1.100", "", false}, {"go1.100", "go1.100", true}, {"go1.07", "", false}, {"go1.07", "go1.07", true}, {"go1.00", "", false}, {"go1.00", "go1.00", true},
		{"go1", "", false}, {"go1", "go1", true}, {"go1.", "", false}, {"go1.", "go1.", true}, {"go1.2.3", "", false}, {"go1.2.3", "go1.2.3", true}, {"go1.2rc1", "", false}, {"go1.2rc1", "go1.2rc1", true}, {"go1.2beta1", "", false},
		{"go2.1", "", false}, {"go2.1", "go2.1", true}, {"Go1.1", "", false}, {"xgo1.1", "", false}, {"1.1", "", false}, {"1.1", "1.1", true}, {"gogo1.1", "", false}, {"go1.1x", "", false}, {"go1.1.", "", false}, {"go_1.1", "", false}, {"go1.2_1", "", false},
		{"linux", "", false}, {"gc", "", false}, {"unix", "linux", false},
	} {
		x, e := Read(c.s)
		if got := Holds(x, strings.Fields(c.tags)); e != api.OK || got != c.want {
			t.Errorf("P5.1: Holds(%q, %q) = %v", c.s, c.tags, got)
		}
	}
}

func TestLeast(t *testing.T) {
	for s, want := range map[string]int{
		"a": -1, "go1": -1, "go1.100": -1, "go1.07": -1, "go1.00": -1, "go1.2.1": -1, "go1.2rc1": -1, "go1.2beta3": -1, "1.2": -1, "go2.3": -1, "ago1.3": -1, "go1.3a": -1,
		"!go1.18": -1, "!!go1.18": -1, "!a": -1, "!(go1.1 && go1.2)": -1,
		"go1.21 && go1.18": 21, "go1.18 && go1.21": 21, "go1.3 && a": 3, "a && go1.3": 3, "a && b": -1, "a && go1.0": 0, "a && go1.1 && go1.5 && go1.3": 5, "go1.21 && !x": 21, "go1.4 && !go1.9": 4, "!go1.9 && !go1.8": -1,
		"go1.21 || go1.18": 18, "go1.18 || go1.21": 18, "a || go1.18": -1, "go1.18 || a": -1, "go1.18 || a || go1.3": -1, "go1.18 || !go1.3": -1, "go1.9 || go1.0 || go1.5": 0, "a || b": -1,
		"(go1.4 || go1.9) && go1.5": 5, "(go1.4 || go1.9) && go1.2": 4, "(go1.4 || a) && go1.2": 2, "(go1.4 || a) && b": -1, "(a && go1.7) || go1.8": 7, "a && go1.7 || b && go1.6 || go1.9": 6, "a && go1.7 || b": -1, "((go1.5))": 5,
	} {
		x, e := Read(s)
		if got := Least(x); e != api.OK || got != want {
			t.Errorf("P5.1: Least(%q) = %d, want %d", s, got, want)
		}
	}
}

// TestEachVersion: of go1.N with N from 0 to 99 alone.
func TestEachVersion(t *testing.T) {
	for n := range 200 {
		x := tagged("go1." + strconv.Itoa(n))
		if n > 99 {
			if Least(x) != -1 || Holds(x, nil) || !Holds(x, []string{x.Tag}) {
				t.Errorf("P5.1: %s is a version", x.Tag)
			}
			continue
		}
		if Least(x) != n || Holds(x, nil) != (n <= 24) || Holds(x, []string{x.Tag}) != (n <= 24) {
			t.Errorf("P5.1: %s: Least %d, Holds %v", x.Tag, Least(x), Holds(x, nil))
		}
	}
}

func TestWrite(t *testing.T) {
	a, b, c := tagged("a"), tagged("b"), tagged("c")
	all, one := op("&&", a, b), op("||", a, b)
	for _, d := range []struct {
		x    Expr
		want string
	}{
		{a, "a"},
		{op("!", a), "!a"},
		{op("!", op("!", a)), "!!a"},
		{op("!", all), "!(a && b)"},
		{op("!", one), "!(a || b)"},
		{op("!", op("!", one)), "!!(a || b)"},
		{op("&&", a, b, c), "a && b && c"},
		{op("||", a, b, c), "a || b || c"},
		{op("&&", all, c), "(a && b) && c"},
		{op("&&", c, all), "c && (a && b)"},
		{op("||", one, c), "(a || b) || c"},
		{op("||", c, one), "c || (a || b)"},
		{op("&&", one, c), "(a || b) && c"},
		{op("&&", c, one), "c && (a || b)"},
		{op("||", all, c), "a && b || c"},
		{op("||", c, all), "c || a && b"},
		{op("&&", op("!", a), op("!", one)), "!a && !(a || b)"},
		{op("||", op("&&", one, op("||", all, c)), c), "(a || b) && (a && b || c) || c"},
	} {
		if got := Write(d.x); got != d.want {
			t.Errorf("P5.2: Write(%s) = %q, want %q", form(d.x), got, d.want)
		}
	}
}

// trees tells constraints of at most that many within one another, the greatest ones last.
func trees(deep int) []Expr {
	l := []Expr{tagged("a"), tagged("go1.18")}
	if deep == 1 {
		return l
	}
	kids := trees(deep - 1)
	for _, x := range kids {
		l = append(l, op("!", x))
		for _, y := range kids {
			l = append(l, op("&&", x, y), op("||", x, y))
		}
	}
	for i, x := range kids {
		l = append(l, op("&&", x, kids[0], kids[len(kids)-1-i]), op("||", kids[len(kids)-1-i], x, kids[1]))
	}
	return l
}

func TestReadUndoesWrite(t *testing.T) {
	for _, x := range trees(3) {
		if again, e := Read(Write(x)); e != api.OK || form(again) != form(x) {
			t.Errorf("P5.3: %s, written %q, is read as %s, %d", form(x), Write(x), form(again), e)
		}
	}
}

func TestOf(t *testing.T) {
	for s, want := range map[string]string{
		"//go:build a":                                       "a",
		"//go:build a\n":                                     "a",
		"//go:build a\npackage p":                            "a",
		"//go:build\ta || b\npackage p\n":                    "(|| a b)",
		"//go:build   a \t\r\n\npackage p":                   "a",
		"//go:build a\r\npackage p":                          "a",
		"//go:build a\r\r \r\npackage p":                     "a",
		"\n\n// x\n/* y\n*/\n \t\r//go:build !a\npackage p":  "(! a)",
		"\ufeff//go:build a\npackage p":                      "a",
		"\ufeff \r\t//go:build a\npackage p":                 "a",
		"//go:build a\npackage p\n//go:build b\n":            "a", // behind the word
		"//go:build a\n//package p":                          "a",
		"x := 1\n//go:build a\n\"package\"\n`package`":       "a", // no word
		"func f() {}\n//go:build a\npackage p":               "a",
		"packages\n//go:build a\npackage p\npackage q":       "a",
		"//go:buildx b\n//go:build\n//go:build a\npackage p": "a",
		"/* x */\n//go:build a\npackage p":                   "a",
		"/*\n//go:build b\n*/\n//go:build a\npackage p":      "a",
		"x := `\n//go:build b\n`\n//go:build a":              "a",
		"//go:build a\nx //go:build b\npackage p":            "a",
		"//go:build " + strings.Repeat("x", 499):             strings.Repeat("x", 499), // the blank counts
		"//go:build " + strings.Repeat("x", 499) + "\t \r":   strings.Repeat("x", 499),
	} {
		if x, there, e := Of([]byte(s)); e != api.OK || !there || form(x) != want {
			t.Errorf("P5.2: Of(%q) = %s, %v, %d", s, form(x), there, e)
		}
	}
}

func TestOfNone(t *testing.T) {
	for _, s := range []string{
		"", "\n", "package p", "// x\npackage p", "package p\n//go:build a", "package p //go:build a", "package //go:build a\np", "package p\n//go:build -",
		"//go:build\npackage p", "//go:build", "//go:build\r\npackage p", "//go:builda\npackage p", "//go:build!a\npackage p", "//go:build(a)\npackage p", "//go:build\u00a0a",
		"// go:build a\npackage p", "//  go:build a", "//Go:build a", "//go:Build a", "//go: build a", "// +build a\npackage p", "///go:build a", "////go:build a", "//\t//go:build a",
		"/*go:build a*/\npackage p", "/* go:build a */", "/*//go:build a*/\npackage p", "/*\n//go:build a\n*/\npackage p", "`\n//go:build a\n`", "\"//go:build a\"",
		"/**/ //go:build a\npackage p", "/*\n*/ //go:build a\npackage p", "/*\n*///go:build a\npackage p", "x //go:build a\npackage p", "; //go:build a", "{//go:build a\n}",
		"if package { //go:build a\n}",
	} {
		if x, there, e := Of([]byte(s)); e != api.OK || there || !empty(x) {
			t.Errorf("P5.2: Of(%q) = %s, %v, %d", s, form(x), there, e)
		}
	}
}

func TestOfWrong(t *testing.T) {
	for _, c := range []struct {
		s string
		e api.Errno
	}{
		{"//go:build a\n//go:build b\npackage p", api.ErrTag},
		{"//go:build a\n//go:build a\npackage p", api.ErrTag},
		{"//go:build a\n\n \t//go:build b", api.ErrTag},
		{"//go:build a\n//go:build b\n//go:build c\npackage p", api.ErrTag},
		{"//go:build a\n//go:build -\npackage p", api.ErrTag},
		{"//go:build -\n//go:build a\npackage p", api.ErrTag},
		{"//go:build \npackage p", api.ErrTag},
		{"//go:build\t\r\npackage p", api.ErrTag},
		{"//go:build a b\npackage p", api.ErrTag},
		{"//go:build a // b\npackage p", api.ErrTag},
		{"//go:build a /* b */\npackage p", api.ErrTag},
		{"//go:build a\r b\npackage p", api.ErrTag},
		{"//go:build \ra\npackage p", api.ErrTag},
		{"//go:build ä\npackage p", api.ErrTag},
		{"//go:build a\v\npackage p", api.ErrTag},
		{"//go:build a\u00a0\npackage p", api.ErrTag},
		{"//go:build " + strings.Repeat("x", 500), api.ErrTag}, // too long, with the blank
		{"//go:build " + strings.Repeat(" ", 499) + "a", api.ErrTag},
		{"//go:build " + chain(100, "!"), api.ErrTag},
		{"//go:build a\npackage \xff", api.ErrText},
		{"//go:build \x00\npackage p", api.ErrText},
		{"//go:build a\n\ufeffpackage p", api.ErrText},
		{"//go:build a\npackage p $", api.ErrToken},
		{"//go:build a\n//go:build b\n\"", api.ErrToken},
		{"//go:build -\n`", api.ErrToken},
		{"//go:build a\n/*", api.ErrToken},
		{"//go:build a\n//" + strings.Repeat("x", api.MaxSource), api.ErrLong},
		{strings.Repeat("\xff", api.MaxSource+1), api.ErrLong},
	} {
		if x, there, e := Of([]byte(c.s)); e != c.e || there || !empty(x) {
			t.Errorf("P5.2: Of(%.99q) = %s, %v, %d, want %d", c.s, form(x), there, e, c.e)
		}
	}
}

// TestOfLong: many notes, and as many bytes as may be.
func TestOfLong(t *testing.T) {
	ahead := "//go:build a\n"
	x, there, e := Of([]byte(ahead + strings.Repeat("/", api.MaxSource-len(ahead))))
	if e != api.OK || !there || form(x) != "a" {
		t.Errorf("P5.2: %s, %v, %d", form(x), there, e)
	}
	if _, there, e := Of([]byte(strings.Repeat(ahead, api.MaxSource/len(ahead)))); e != api.ErrTag || there {
		t.Errorf("P5.2: %v, %d", there, e)
	}
}

func TestNothingIsChanged(t *testing.T) {
	whole := []byte("//go:build a && (b || !c)\npackage p // spare room")
	was := bytes.Clone(whole)
	b := whole[:len("//go:build a && (b || !c)\npackage p")]
	x, there, e := Of(b)
	if e != api.OK || !there || !bytes.Equal(whole, was) {
		t.Errorf("R4: what is handed in was changed: %v, %d", there, e)
	}
	clear(whole)
	const want = "(&& a (|| b (! c)))"
	if form(x) != want {
		t.Errorf("R4: what is handed in was kept: %s", form(x))
	}
	tags := []string{"c", "a", "b"}
	if !Right(x) || Holds(x, tags[:2]) || !Holds(x, tags) || Least(x) != -1 || Write(x) != "a && (b || !c)" || form(x) != want || !slices.Equal(tags, []string{"c", "a", "b"}) {
		t.Errorf("R4: what is handed in was changed: %s, %v", form(x), tags)
	}
	first, _ := Read("a && b && c")
	first.Kids[0] = tagged("z")
	_ = append(first.Kids[:1], tagged("y"))
	if again, _ := Read("a && b && c"); form(again) != "(&& a b c)" {
		t.Errorf("R5: another answer: %s", form(again))
	}
}

func FuzzTag(f *testing.F) {
	for _, s := range []string{"a && (b || !go1.18)", "!!(a)||b", "((", "a\t&&b\r", "\xff"} {
		f.Add(s)
	}
	f.Fuzz(func(t *testing.T, s string) {
		x, e := Read(s)
		if e != api.OK {
			if e != api.ErrTag && e != api.ErrLong || !empty(x) {
				t.Errorf("P5.1: %s, %d", form(x), e)
			}
			return
		}
		if again, e := Read(Write(x)); !Right(x) || e != api.OK && len(Write(x)) <= 500 || e == api.OK && form(again) != form(x) {
			t.Errorf("P5.3: %s, then %s, %d", form(x), form(again), e)
		}
	})
}
