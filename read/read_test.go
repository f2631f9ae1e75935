package read

import (
	"bytes"
	"reflect"
	"slices"
	"strconv"
	"strings"
	"testing"

	"demotic/api"
	"demotic/token"
	"demotic/tree"
)

// kinds tells the kinds of nodes by their names.
var kinds = strings.Fields("None File Func Type Alias Var List TParam Param Field TName TSlice TFunc TStruct TInter Term EInt EStr EName EUnary EBinary ECall EIndex EField ELit EFunc SShort SAssign SInc SExpr SIf SFor SRange SReturn SBreak SContinue SBlock")

// form tells a tree in a row: of EName and TName the text alone.
func form(n api.Node) string {
	if (n.Kind == api.EName || n.Kind == api.TName) && len(n.Kids) == 0 {
		return map[int]string{api.EName: "", api.TName: "'"}[n.Kind] + n.Text
	}
	s := "(" + kinds[n.Kind]
	if n.Text != "" || n.Kind == api.EStr {
		s += " " + strconv.QuoteToASCII(n.Text)
	}
	for _, kid := range n.Kids {
		s += " " + form(kid)
	}
	return s + ")"
}

// within puts a statement into a file.
func within(s string) string {
	return "package p\nfunc f() {\n" + s + "\n}\n"
}

// zero: is there nothing beside an error?
func zero(n api.Node) bool {
	return reflect.DeepEqual(n, api.Node{})
}

func TestExpr(t *testing.T) {
	for s, want := range map[string]string{
		"a":               "a",
		" a // b\n":       "a",
		"/* */a/*\n*/":    "a",
		"017":             `(EInt "15")`,
		"0x_1F":           `(EInt "31")`,
		`"a\n"`:           `(EStr "a\n")`,
		"`\\n\r\n`":       `(EStr "\\n\n")`,
		`"\xff"`:          `(EStr "\xff")`,
		`""`:              `(EStr "")`,
		"\"(\"":           `(EStr "(")`, // no sign, nor a word
		"a(\")\",\"{\")":  `(ECall a (EStr ")") (EStr "{"))`,
		"`[`[`]`]":        `(EIndex (EStr "[") (EStr "]"))`,
		"`-`-`func`":      `(EBinary "-" (EStr "-") (EStr "func"))`,
		"\"\\n\"+\";\"":   `(EBinary "+" (EStr "\n") (EStr ";"))`,
		"-a":              `(EUnary "-" a)`,
		"- - !a":          `(EUnary "-" (EUnary "-" (EUnary "!" a)))`,
		"-a.b":            `(EUnary "-" (EField "b" a))`,
		"!a[b](c)":        `(EUnary "!" (ECall (EIndex a b) c))`,
		"a+b":             `(EBinary "+" a b)`,
		"a-b-c":           `(EBinary "-" (EBinary "-" a b) c)`,
		"a-(b-c)":         `(EBinary "-" a (EBinary "-" b c))`,
		"a+b*c":           `(EBinary "+" a (EBinary "*" b c))`,
		"a*b+c":           `(EBinary "+" (EBinary "*" a b) c)`,
		"(a+b)*c":         `(EBinary "*" (EBinary "+" a b) c)`,
		"a/b%c":           `(EBinary "%" (EBinary "/" a b) c)`,
		"-a*b":            `(EBinary "*" (EUnary "-" a) b)`,
		"a*-b":            `(EBinary "*" a (EUnary "-" b))`,
		"a==b+c":          `(EBinary "==" a (EBinary "+" b c))`,
		"a<b==c":          `(EBinary "==" (EBinary "<" a b) c)`,
		"a||b&&c==d+e*f":  `(EBinary "||" a (EBinary "&&" b (EBinary "==" c (EBinary "+" d (EBinary "*" e f)))))`,
		"a*b+c>=d&&e||f":  `(EBinary "||" (EBinary "&&" (EBinary ">=" (EBinary "+" (EBinary "*" a b) c) d) e) f)`,
		"a&&b||c&&d":      `(EBinary "||" (EBinary "&&" a b) (EBinary "&&" c d))`,
		"a!=b<=c>d":       `(EBinary ">" (EBinary "<=" (EBinary "!=" a b) c) d)`,
		"((a))":           "a",
		"a()":             "(ECall a)",
		"a(b,c,)":         "(ECall a b c)",
		"a(b,\n)":         "(ECall a b)",
		"a(\n)":           "(ECall a)",
		"(a)(b)":          "(ECall a b)",
		"a.b.c":           `(EField "c" (EField "b" a))`,
		"a.\nb":           `(EField "b" a)`,
		"a._":             `(EField "_" a)`,
		"1.a":             `(EField "a" (EInt "1"))`,
		"a[b]":            "(EIndex a b)",
		"a[b,c,]":         "(EIndex a b c)",
		"a[[]b]":          "(EIndex a (TSlice 'b))",
		"a[[](b)]":        "(EIndex a (TSlice 'b))",
		"a[[]b{}]":        "(EIndex a (ELit (TSlice 'b)))",
		"a[[]b{c}[d]+e]":  `(EIndex a (EBinary "+" (EIndex (ELit (TSlice 'b) c) d) e))`,
		"a[[]b[c]{d}]":    "(EIndex a (ELit (TSlice (TName \"b\" 'c)) d))",
		"a[[]b[c],]":      "(EIndex a (TSlice (TName \"b\" 'c)))",
		"a[func()]":       "(EIndex a (TFunc (List) (None)))",
		"a[func()b]":      "(EIndex a (TFunc (List) 'b))",
		"a[func(b)c]":     "(EIndex a (TFunc (List (Param 'b)) 'c))",
		"a[func(b,c,)]":   "(EIndex a (TFunc (List (Param 'b) (Param 'c)) (None)))",
		"a[func(b[c])]":   "(EIndex a (TFunc (List (Param (TName \"b\" 'c))) (None)))",
		"a[func([]b)]":    "(EIndex a (TFunc (List (Param (TSlice 'b))) (None)))",
		"a[func((b))]":    "(EIndex a (TFunc (List (Param 'b)) (None)))",
		"a[func(){}]":     "(EIndex a (EFunc (TFunc (List) (None)) (SBlock)))",
		"a[func()b{}]":    "(EIndex a (EFunc (TFunc (List) 'b) (SBlock)))",
		"a[func(){}()+b]": `(EIndex a (EBinary "+" (ECall (EFunc (TFunc (List) (None)) (SBlock))) b))`,
		"a[func(b c){}]":  `(EIndex a (EFunc (TFunc (List (Param "b" 'c)) (None)) (SBlock)))`,
		"a[func(b []c){}, func(b(c)){}, func(b func()){}, d]": `(EIndex a (EFunc (TFunc (List (Param "b" (TSlice 'c))) (None)) (SBlock)) (EFunc (TFunc (List (Param "b" 'c)) (None)) (SBlock)) (EFunc (TFunc (List (Param "b" (TFunc (List) (None)))) (None)) (SBlock)) d)`,
		"a[b[c]]":                "(EIndex a (EIndex b c))",
		"a[b][c]":                "(EIndex (EIndex a b) c)",
		"x[int](1)":              `(ECall (EIndex x int) (EInt "1"))`,
		"T{}":                    "(ELit 'T)",
		"T{a,b,}":                "(ELit 'T a b)",
		"T{\n}":                  "(ELit 'T)",
		"T{T{a},\n}.b":           `(EField "b" (ELit 'T (ELit 'T a)))`,
		"T[a]{}":                 "(ELit (TName \"T\" 'a))",
		"T[a[b],[]c,func(d)]{e}": "(ELit (TName \"T\" (TName \"a\" 'b) (TSlice 'c) (TFunc (List (Param 'd)) (None))) e)",
		"T[(a),((b[c]))]{}":      "(ELit (TName \"T\" 'a (TName \"b\" 'c)))",
		"[]T{}":                  "(ELit (TSlice 'T))",
		"[][]T[a]{b,c}":          "(ELit (TSlice (TSlice (TName \"T\" 'a))) b c)",
		"[](T){a}":               "(ELit (TSlice 'T) a)",
		"[]func(){a}":            "(ELit (TSlice (TFunc (List) (None))) a)",
		"[]func()T{a}":           "(ELit (TSlice (TFunc (List) 'T)) a)",
		"[]T{}[0]":               `(EIndex (ELit (TSlice 'T)) (EInt "0"))`,
		"func(){}":               "(EFunc (TFunc (List) (None)) (SBlock))",
		"func(a b,)(c){d()}":     `(EFunc (TFunc (List (Param "a" 'b)) 'c) (SBlock (SExpr (ECall d))))`,
		"func()func(){}":         "(EFunc (TFunc (List) (TFunc (List) (None))) (SBlock))",
		"func(){}()":             "(ECall (EFunc (TFunc (List) (None)) (SBlock)))",
		"func() { return }":      "(EFunc (TFunc (List) (None)) (SBlock (SReturn (None))))",
		"func() { if T { } }":    "(EFunc (TFunc (List) (None)) (SBlock (SIf T (SBlock) (None))))",
	} {
		if n, at, e := Expr(s); e != api.OK || at != 0 || form(n) != want {
			t.Errorf("P8.1: Expr(%q) = %s, %d at %d, want %s", s, form(n), e, at, want)
		}
	}
}

func TestStatements(t *testing.T) {
	for s, want := range map[string]string{
		"":                             "",
		";;":                           "",
		";a();;b();":                   "(SExpr (ECall a)) (SExpr (ECall b))",
		"a()\n\n\nb()":                 "(SExpr (ECall a)) (SExpr (ECall b))",
		"var x int":                    `(Var "x" 'int (None))`,
		"var x = 1":                    `(Var "x" (None) (EInt "1"))`,
		"var _ []a = b":                `(Var "_" (TSlice 'a) b)`,
		"x := a":                       `(SShort "x" a)`,
		"x := T{}":                     `(SShort "x" (ELit 'T))`,
		"a.b = c":                      `(SAssign (EField "b" a) c)`,
		"_ = a":                        "(SAssign _ a)",
		"(a) = b":                      "(SAssign a b)",
		"a + b = -c":                   `(SAssign (EBinary "+" a b) (EUnary "-" c))`,
		"a++":                          `(SInc "++" a)`,
		"a[b]--":                       `(SInc "--" (EIndex a b))`,
		"a()":                          "(SExpr (ECall a))",
		"a.b(c)(d)":                    `(SExpr (ECall (ECall (EField "b" a) c) d))`,
		"(a)()":                        "(SExpr (ECall a))",
		"func() { }()":                 "(SExpr (ECall (EFunc (TFunc (List) (None)) (SBlock))))",
		"T{}.a()":                      `(SExpr (ECall (EField "a" (ELit 'T))))`,
		"[]T{}[0]()":                   `(SExpr (ECall (EIndex (ELit (TSlice 'T)) (EInt "0"))))`,
		"if a { }":                     "(SIf a (SBlock) (None))",
		"if a { b() } else { c() }":    "(SIf a (SBlock (SExpr (ECall b))) (SBlock (SExpr (ECall c))))",
		"if a { } else if b { }":       "(SIf a (SBlock) (SIf b (SBlock) (None)))",
		"if a {} else if b {} else {}": "(SIf a (SBlock) (SIf b (SBlock) (SBlock)))",
		"if T { }":                     "(SIf T (SBlock) (None))",
		"if (T{}).a { }":               `(SIf (EField "a" (ELit 'T)) (SBlock) (None))`,
		"if a(T{}) { }":                "(SIf (ECall a (ELit 'T)) (SBlock) (None))",
		"if a[T{}] { }":                "(SIf (EIndex a (ELit 'T)) (SBlock) (None))",
		"if []T{T{}} == a { }":         `(SIf (EBinary "==" (ELit (TSlice 'T) (ELit 'T)) a) (SBlock) (None))`,
		"if T[a] { }":                  "(SIf (EIndex T a) (SBlock) (None))",
		"if func() a { T{}.b(); if c { } }() { }": `(SIf (ECall (EFunc (TFunc (List) 'a) (SBlock (SExpr (ECall (EField "b" (ELit 'T)))) (SIf c (SBlock) (None))))) (SBlock) (None))`,
		"if a { T{}.b() } else { T{}.c() }":       `(SIf a (SBlock (SExpr (ECall (EField "b" (ELit 'T))))) (SBlock (SExpr (ECall (EField "c" (ELit 'T))))))`,
		"for { }":                                 "(SFor (None) (None) (None) (SBlock))",
		"for a { }":                               "(SFor (None) a (None) (SBlock))",
		"for a() { }":                             "(SFor (None) (ECall a) (None) (SBlock))",
		"for T { T{}.a() }":                       `(SFor (None) T (None) (SBlock (SExpr (ECall (EField "a" (ELit 'T))))))`,
		"for ;; { }":                              "(SFor (None) (None) (None) (SBlock))",
		"for ; a; { }":                            "(SFor (None) a (None) (SBlock))",
		"for i := 0; i < 3; i++ { }":              `(SFor (SShort "i" (EInt "0")) (EBinary "<" i (EInt "3")) (SInc "++" i) (SBlock))`,
		"for i := 0\n i < 3\n i++ { }":            `(SFor (SShort "i" (EInt "0")) (EBinary "<" i (EInt "3")) (SInc "++" i) (SBlock))`,
		"for a = b; ; a() { }":                    "(SFor (SAssign a b) (None) (SExpr (ECall a)) (SBlock))",
		"for a--; b; c = d { }":                   `(SFor (SInc "--" a) b (SAssign c d) (SBlock))`,
		"for x := (T{}); T; x = (T{}) { }":        `(SFor (SShort "x" (ELit 'T)) T (SAssign x (ELit 'T)) (SBlock))`,
		"for range a { }":                         "(SRange a (SBlock))",
		"for a := range b { }":                    `(SRange "a" b (SBlock))`,
		"for a, b := range T { }":                 `(SRange "a,b" T (SBlock))`,
		"for _, b := range []T{} { }":             `(SRange "_,b" (ELit (TSlice 'T)) (SBlock))`,
		"for _ = a; ; { }":                        "(SFor (SAssign _ a) (None) (None) (SBlock))",
		"for range (T{}) { }":                     "(SRange (ELit 'T) (SBlock))",
		"return":                                  "(SReturn (None))",
		"return a":                                "(SReturn a)",
		"return T{}":                              "(SReturn (ELit 'T))",
		"return\na()":                             "(SReturn (None)) (SExpr (ECall a))",
		"return;":                                 "(SReturn (None))",
		"break":                                   "(SBreak)",
		"continue; break":                         "(SContinue) (SBreak)",
		"{ }":                                     "(SBlock)",
		"{ a(); { b() } }":                        "(SBlock (SExpr (ECall a)) (SBlock (SExpr (ECall b))))",
	} {
		n, at, e := File([]byte(within(s)))
		if want := strings.TrimSuffix(`(File "p" (Func "f" (List) (TFunc (List) (None)) (SBlock `+want, " ") + ")))"; e != api.OK || at != 0 || form(n) != want {
			t.Errorf("P8.1: %s: %s, %d at %d, want %s", s, form(n), e, at, want)
		}
	}
}

func TestDeclarations(t *testing.T) {
	for s, want := range map[string]string{
		"":                                    "",
		"func f() {}":                         `(Func "f" (List) (TFunc (List) (None)) (SBlock))`,
		"func f(a b, _ c,) []d {}":            `(Func "f" (List) (TFunc (List (Param "a" 'b) (Param "_" 'c)) (TSlice 'd)) (SBlock))`,
		"func _() (a) {}":                     `(Func "_" (List) (TFunc (List) 'a) (SBlock))`,
		"func f() func(a) b {}":               `(Func "f" (List) (TFunc (List) (TFunc (List (Param 'a)) 'b)) (SBlock))`,
		"func f[P any]() {}":                  `(Func "f" (List (TParam "P" 'any)) (TFunc (List) (None)) (SBlock))`,
		"func f[P any, Q C[P],]() {}":         `(Func "f" (List (TParam "P" 'any) (TParam "Q" (TName "C" 'P))) (TFunc (List) (None)) (SBlock))`,
		"func f[P int|string]() {}":           `(Func "f" (List (TParam "P" (TInter (Term 'int) (Term 'string)))) (TFunc (List) (None)) (SBlock))`,
		"func f[P ~int]() {}":                 `(Func "f" (List (TParam "P" (TInter (Term "~" 'int)))) (TFunc (List) (None)) (SBlock))`,
		"func f[P []int]() {}":                `(Func "f" (List (TParam "P" (TInter (Term (TSlice 'int))))) (TFunc (List) (None)) (SBlock))`,
		"func f[P func()]() {}":               `(Func "f" (List (TParam "P" (TInter (Term (TFunc (List) (None)))))) (TFunc (List) (None)) (SBlock))`,
		"func f[P interface{int}]() {}":       `(Func "f" (List (TParam "P" (TInter (Term 'int)))) (TFunc (List) (None)) (SBlock))`,
		"func f[P interface{~int|a;}]() {}":   `(Func "f" (List (TParam "P" (TInter (Term "~" 'int) (Term 'a)))) (TFunc (List) (None)) (SBlock))`,
		"func f[P (int)]() {}":                `(Func "f" (List (TParam "P" 'int)) (TFunc (List) (None)) (SBlock))`,
		"type T int":                          `(Type "T" (List) 'int)`,
		"type T []int":                        `(Type "T" (List) (TSlice 'int))`,
		"type T (int)":                        `(Type "T" (List) 'int)`,
		"type T ((func(int)))":                `(Type "T" (List) (TFunc (List (Param 'int)) (None)))`,
		"type T[P any] []P":                   `(Type "T" (List (TParam "P" 'any)) (TSlice 'P))`,
		"type T[P any] U[P, []P,]":            `(Type "T" (List (TParam "P" 'any)) (TName "U" 'P (TSlice 'P)))`,
		"type T struct {}":                    `(Type "T" (List) (TStruct))`,
		"type T struct { a b; _ []c }":        `(Type "T" (List) (TStruct (Field "a" 'b) (Field "_" (TSlice 'c))))`,
		"type T[P any] struct {\na b\nc d\n}": `(Type "T" (List (TParam "P" 'any)) (TStruct (Field "a" 'b) (Field "c" 'd)))`,
		"type C interface { int }":            `(Type "C" (List) (TInter (Term 'int)))`,
		"type C interface {\n~int | []a\n}":   `(Type "C" (List) (TInter (Term "~" 'int) (Term (TSlice 'a))))`,
		"type C[P any] interface { P }":       `(Type "C" (List (TParam "P" 'any)) (TInter (Term 'P)))`,
		"type A = int":                        `(Alias "A" (List) 'int)`,
		"type A[P any] = func(P,) P":          `(Alias "A" (List (TParam "P" 'any)) (TFunc (List (Param 'P)) 'P))`,
		"var x int":                           `(Var "x" 'int (None))`,
		"var x = T{}":                         `(Var "x" (None) (ELit 'T))`,
		"var x (int) = 1":                     `(Var "x" 'int (EInt "1"))`,
		"var x func() = a":                    `(Var "x" (TFunc (List) (None)) a)`,
		"var x int; var y int":                `(Var "x" 'int (None)) (Var "y" 'int (None))`,
	} {
		n, at, e := File([]byte("package p\n\n" + s + "\n"))
		if want := strings.TrimSuffix(`(File "p" `+want, " ") + ")"; e != api.OK || at != 0 || form(n) != want {
			t.Errorf("P8.1: %s: %s, %d at %d, want %s", s, form(n), e, at, want)
		}
	}
}

// TestWhere: each node begins at its first token; what has something in front begins where that begins.
func TestWhere(t *testing.T) {
	const text = `package p
type T[P any] struct { a []P }
type C interface { ~int | string }
type A = func(int) T[int]
var v A
func f[P int | C](a P, b (P)) P {
	if (a).b == -c { return } else { a[b](c)++ }
	for i := range []T[int]{1} { break }
	for i := 0; ; f() { continue }
	(a) = T[[]b, c]{}
	return (a + b) * func() {}
}
`
	// The first tokens of the nodes, in their order; - of one that stands nowhere.
	const want = `package
type [ P any struct a [ P
type - interface ~ int string string
type - func ( int int T int
var A -
func [ P int int int C C ( ( a P b P P {
if a a a - c { return - { a a a a b c
for [ [ T int 1 { break
for i 0 - f f f { continue
( a T T [ b c
return a a a b func ( ( - {`
	n, at, e := File([]byte(text))
	if e != api.OK || at != 0 {
		t.Fatalf("P8.1: %d at %d", e, at)
	}
	words := map[int]string{}
	tokens, _, _ := token.Scan([]byte(text))
	for _, x := range tokens {
		words[x.At] = x.Text
	}
	var got []string
	var each func(n api.Node)
	each = func(n api.Node) {
		if n.At == 0 && n.Kind != api.File {
			got = append(got, "-")
		} else {
			got = append(got, words[n.At])
		}
		for _, kid := range n.Kids {
			each(kid)
		}
	}
	each(n)
	if wants := strings.Fields(want); !slices.Equal(got, wants) {
		t.Errorf("P8.1: the nodes begin at %q, want %q", got, wants)
	}
	const spot = "b * (c)[d]"
	x, _, _ := Expr("a + (" + spot + ")")
	if right := x.Kids[1]; x.At != 0 || right.At != 5 || right.Kids[1].At != 10 || right.Kids[1].Kids[0].At != 10 {
		t.Errorf("P8.1: other places: %v", x)
	}
}

func TestOther(t *testing.T) {
	for _, word := range strings.Fields("case chan const default defer fallthrough go goto map select switch import") {
		for _, ahead := range []string{"", "package p\n", "package p\nvar x = ", "package p; 08 \"\\q\" + - ", "} ( "} {
			if n, at, e := File([]byte(ahead + word + " map import <<")); e != api.ErrOther || at != len(ahead) || !zero(n) {
				t.Errorf("P8.1: %s%s: %d at %d", ahead, word, e, at)
			}
			if n, at, e := Expr(ahead + word); e != api.ErrOther || at != len(ahead) || !zero(n) {
				t.Errorf("P8.1: Expr(%s%s): %d at %d", ahead, word, e, at)
			}
		}
	}
	for _, sign := range strings.Fields("<<= >>= &^= ... += -= *= /= %= &= |= ^= << >> &^ <- & ^ :") {
		for _, ahead := range []string{"", "package p\nvar x = a ", "package p 0x "} {
			if n, at, e := File([]byte(ahead + sign + " b map :")); e != api.ErrOther || at != len(ahead) || !zero(n) {
				t.Errorf("P8.1: %s%s: %d at %d", ahead, sign, e, at)
			}
		}
	}
	for _, word := range strings.Fields("break continue else for func if interface package range return struct type var && || == != <= >= := ++ -- + - * / % | < > = ! ( ) [ ] { } , ; . ~ maps imports Map") {
		if _, _, e := File([]byte(word + " \"map\" `import` // map :\n")); e != api.ErrForm {
			t.Errorf("P8.1: %s: %d", word, e)
		}
	}
	if n, at, e := File([]byte("package p\nvar x = a & b")); e != api.ErrOther || at != 20 || !zero(n) {
		t.Errorf("P8.1: %d at %d", e, at)
	}
}

func TestLit(t *testing.T) {
	for _, s := range []string{"08", "0x", "1_", "1__0", "0b2", "1a", "0o8", "9z", "1e5", strings.Repeat("1", 201), "0x" + strings.Repeat("0", 199), `"\q"`, `"\400"`, `"\ud800"`, `"\x1"`, `"` + strings.Repeat("x", 1001) + `"`, "`" + strings.Repeat("ä", 501) + "`", `"` + strings.Repeat(`\xff`, 1001) + `"`} {
		for _, ahead := range []string{"", "package p\nvar x = ", ") 1 \"a\" "} {
			if n, at, e := File([]byte(ahead + s + " 08 )")); e != api.ErrLit || at != len(ahead) || !zero(n) {
				t.Errorf("P8.1: %.99s%.99s: %d at %d", ahead, s, e, at)
			}
			if n, at, e := Expr(ahead + s); e != api.ErrLit || at != len(ahead) || !zero(n) {
				t.Errorf("P8.1: Expr(%.99s%.99s): %d at %d", ahead, s, e, at)
			}
		}
	}
	for s, want := range map[string]string{
		strings.Repeat("9", 200):                       strings.Repeat("9", 200),
		"0" + strings.Repeat("_0", 99) + "7":           "7",
		`"` + strings.Repeat(`\xff`, 1000) + `"`:       strings.Repeat("\xff", 1000), // what it means counts
		"`" + strings.Repeat("x\r", 1000) + "`":        strings.Repeat("x", 1000),
		`"` + strings.Repeat(`\U00000041`, 1000) + `"`: strings.Repeat("A", 1000),
		"`" + strings.Repeat("ä", 500) + "`":           strings.Repeat("ä", 500),
	} {
		if n, _, e := Expr(s); e != api.OK || n.Text != want {
			t.Errorf("P8.1: Expr(%.99s): %d, %.99q", s, e, n.Text)
		}
	}
}

// TestScanned: what is no text, or has no tokens, is told ahead of all else.
func TestScanned(t *testing.T) {
	for _, c := range []struct {
		s  string
		at int
		e  api.Errno
	}{
		{"map 08 \xff", 7, api.ErrText},
		{"\x00", 0, api.ErrText},
		{"package p\ufeff", 9, api.ErrText},
		{"map 08 $", 7, api.ErrToken},
		{"package p 'x'", 10, api.ErrToken},
		{"map \"a", 4, api.ErrToken},
		{"a /*", 2, api.ErrToken},
		{strings.Repeat("\xff", api.MaxSource+1), api.MaxSource, api.ErrLong},
	} {
		if n, at, e := File([]byte(c.s)); e != c.e || at != c.at || !zero(n) {
			t.Errorf("P8.1: File(%.99q): %d at %d, want %d at %d", c.s, e, at, c.e, c.at)
		}
		if n, at, e := Expr(c.s); e != c.e || at != c.at || !zero(n) {
			t.Errorf("P8.1: Expr(%.99q): %d at %d, want %d at %d", c.s, e, at, c.e, c.at)
		}
	}
}

// TestNoForm: @ stands ahead of the token with which it does not go on, or at the end.
func TestNoForm(t *testing.T) {
	for _, s := range []string{
		"@", "// a\n@", "@a", "@;", "@func f() {}", "package @;", "package@", "package @1", "package @if", "package p;@;", "package p @q", "package p\n@x := 1", "package p\n@package q", "package p\n@{ }",
	} {
		noForm(t, "", s)
	}
	for _, s := range []string{
		"var @", "var x = @", "var x = 1 @2", "var x@\n", "var x@;", "var @(x int)", "var x@, y int", "var x int @:= 1", "var x int = @;", "var x @struct { }", "var @1",
		"func @(r T) f() {}", "func f@", "func f@\n() {}", "func f(@", "func f(a@, b int) {}", "func f(a@) {}", "func f(a int@", "func f(a int @b int) {}", "func f(@,) {}", "func f(a int,@,) {}", "func f(@1) {}", "func f(a int@;) {}",
		"func f[@]() {}", "func f[P@]() {}", "func f[P@, Q any]() {}", "func f[P any,@,]() {}", "func f[P any | @interface{int}]() {}", "func f[P any @Q any]() {}", "func f[P @!int]() {}", "func f[P int @|| int]() {}", "func f[P ~@~int]() {}", "func f[@~P]() {}",
		"func f() (@) {}", "func f() (a@, b) {}", "func f() {} @func g() {}", "func f()@\n{}", "func f()@", "func f() {@", "func f() int@;", "func f() @struct{} {}", "func f() a @b {}",
		"type T @{}", "type T@", "type T = @struct{}", "type T = @interface{int}", "type T[P any] = @struct{}", "type T = @= int", "type T int @= int",
		"type T struct { @; }", "type T struct { a int;@; }", "type T struct { a@, b int }", "type T struct { T @}", "type T struct { a int @b int }", "type T struct { a int @\"b\" }", "type T struct @int", "type T struct {@", "type T struct { a @struct { } }",
		"type C interface { @}", "type C interface { int;@; }", "type C interface { a@(); }", "type C interface { int@, a }", "type C interface { int | @}", "type C interface { int @int }", "type C interface { int; @int }",
		"type T [@1]int", "type T [@", "type T []@", "type T []@;", "type T func(a @int)", "type T func@;", "type T a[@]", "type T a[b @c]", "type T a[b,@,]", "type T (a@, b)", "type T (@)", "type T (a@", "type T @*a", "type @(T int)", "type T a@.b", "type T a @b", "type T a[b]@[c]", "type T []@struct { }",
	} {
		noForm(t, "package p\n", s)
	}
}

// noForm reads s behind what stands ahead of it, without the @: there it must not go on.
func noForm(t *testing.T, ahead, s string) {
	t.Helper()
	front, back, ok := strings.Cut(s, "@")
	at := len(ahead + front)
	n, got, e := File([]byte(ahead + front + back))
	if !ok || e != api.ErrForm || got != at || !zero(n) {
		t.Errorf("P8.1: %q: %d at %d, want %d", ahead+s, e, got, at)
	}
}

func TestNoStatement(t *testing.T) {
	for _, s := range []string{
		"a @}", "a@\n", "a.b @}", "1 @}", "T{}@;", "(a())@;", "((a)())@;", "a() + b()@;", "-a()@;", "a().b@;", "a()[0]@;", "a() @{ }", "func() {}@;", "\"a\"@;",
		"_ @:= 1", "(a) @:= 1", "a.b @:= 1", "1 @:= 1", "a() @:= 1", "a@, b := c", "a@, b = c", "a := @;", "a := b @:= c", "a = b@, c", "a = b @= c", "a = @;", "a++ @b", "a++@++", "@++a", "a @b",
		"var a@;", "var _@.a = b", "@package", "@type T int", "@else { }", "@struct", "@range a", "@= a", "@)", "@, a", "@~a", "@.a", "func @f() { }", "func() @;", "func(a@) { }",
		"if @{ }", "if a@;", "if a@\n{ }", "if @;a { }", "if a @:= 1; a { }", "if a @= b { }", "if a { } @if b { }", "if a { }\n@else { }", "if a { } else @a()", "if a { } else\n@", "if T { 1 @} { }", "if T[a] { b @}", "if (T) { a @}", "if a { 1@, 2 }",
		"for @", "for @) { }", "for a, @_ := range b { }", "for a, @1 := range b { }", "for a,@, b := range c { }", "for _ @:= range a { }", "for _ @:= 1; ; { }", "for a, b @= range c { }", "for a, b := @c { }", "for a = @range b { }", "for (a)@, b := range c { }", "for (a) @:= range c { }", "for a.b @:= range c { }", "for a.b@, c := range d { }", "for a, b@, c := range d { }",
		"for a @; ; { }", "for a := 1 @{ }", "for a++ @{ }", "for a = b @{ }", "for ; @{ }", "for ; a @{ }", "for ; a @= b; { }", "for ;; a @{ }", "for ;;@; { }", "for ; ; a() @; { }", "for range @{ }", "for range a@;", "for a := range T{ 1 @}", "for { } @else { }", "for a := range b @:= c { }",
		"return a@, b", "return @)", "return @= a", "return @var", "break @a", "continue @a", "{ @)", "{ } @a()", "{ a() @b() }",
		"a(@,)", "a(b@\n)", "a(b@;)", "a(b,@,)", "a(b @c)", "a([]@)", "a([]b@)", "a(func()@)", "a[@]", "a[@,]", "a[b@\n]", "a[b @c]", "a[b@)", "a[[]b@(c)]", "a[[]b@.c]", "a[[]b @+ c]", "a[[@1]b]", "a[func(b, c @d) {}]", "a[func(b c, d@) {}]", "a[func(b) @{}]", "a[func(b c)@]", "a[func(b,) @{}]", "a[func() @+ b]", "a[func@]", "a[func([]b @c)]", "a[func(b[]@) c]", "a[func(b[c] @d) {}]", "a[([]b@)]", "a[(func()@)]", "a[-[]b@]",
		"a = (T) @{}", "a = ((T)) @{}", "a = T[1] @{}", "a = T[a.b] @{}", "a = T[a()] @{}", "a = T[-a] @{}", "a = T[(1)] @{}", "a = T[a, 1] @{}", "a = T[[]b{}] @{}", "a = T[a][b] @{}", "a = (T)[a] @{}", "a = T.b @{}", "a = T{} @{}", "a = 1 @{}", "a = T{b@; }", "a = T{@{}}", "a = T{b@\n}", "a = T{@,}", "a = T{b @c}", "a = []b@;", "a = []b@(c)", "a = []@;", "a = [@1]b{}", "a = []b{c@;",
		"a.@(b)", "a.@1", "a.@if", "a.@", "a = b @! c", "a = @+b", "a = b + @* c", "a = b + @;", "a = (b@;", "a = (b@, c)", "a = (@)", "a = -@;", "a = func@;", "a = func(@1) {}", "a = func(b@, c int) {}", "a = func(b@) {}", "a = func() @;", "a = func() b @;", "a = @interface", "a = @struct", "a = @~b", "a = b @| c", "a = b @~ c", "a = b@]", "a = b @=", "a = b || @| c", "a = @if",
	} {
		noForm(t, "package p\nfunc f() { ", s)
	}
}

func TestExprEnds(t *testing.T) {
	for s, want := range map[string]int{
		"": 0, " ": 1, "\n": 1, "// a": 4, "a;": 1, "a\n;": 2, "a\nb": 2, "a\n+b": 2, "a b": 2, ";": 0, "a,": 1, "a)": 1, "a = b": 2, "a := b": 2, "a++": 1, "var": 0, "a +": 3, "a + ": 4, "a +\n": 4, "(": 1, "[]a": 3, "func()": 6, "int[": 4, "a {": 3, "a }": 2, "a(b\n)": 3, "a \"\\n\"": 2, "a `(`": 2, "a `+` b": 2,
	} {
		if n, at, e := Expr(s); e != api.ErrForm || at != want || !zero(n) {
			t.Errorf("P8.1: Expr(%q): %d at %d, want %d", s, e, at, want)
		}
	}
}

func TestDeep(t *testing.T) {
	name := strings.Repeat("n", 100)
	for _, c := range []struct {
		s string
		e api.Errno
	}{
		{strings.Repeat("!", 99) + "a", api.OK},
		{strings.Repeat("!", 100) + "a", api.ErrDeep},
		{strings.Repeat("a(", 99) + "a" + strings.Repeat(")", 99), api.OK},
		{strings.Repeat("a(", 100) + "a" + strings.Repeat(")", 100), api.ErrDeep},
		{"a" + strings.Repeat("+a", 99), api.OK},
		{"a" + strings.Repeat("+a", 100), api.ErrDeep},
		{name, api.OK},
		{name + "n", api.ErrDeep},
		{strings.Repeat(name, 20), api.ErrDeep},
		{"a." + name + "n", api.ErrDeep},
		{"[]" + name + "n{}", api.ErrDeep},
		{"0x" + strings.Repeat("f", 166), api.OK},
		{"0x" + strings.Repeat("f", 167), api.ErrDeep}, // 202 figures
		{"0x" + strings.Repeat("f", 198), api.ErrDeep},
		{"func() { for a(); ; { } }", api.ErrDeep}, // by the rules a form, but no tree
		{"func() { for ; ; a := b { } }", api.ErrDeep},
		{"func() { for a(); ; a := b { } }", api.ErrDeep},
		{"func() { for a() { } }", api.OK},
		{strings.Repeat("(", 30000) + "a" + strings.Repeat(")", 30000), api.OK},
	} {
		n, at, e := Expr(c.s)
		if e != c.e || at != 0 || e != api.OK && !zero(n) || e == api.OK && !tree.Right(n, "expression") {
			t.Errorf("P8.1: Expr(%.99s): %d at %d, want %d", c.s, e, at, c.e)
		}
	}
	for _, s := range []string{"@", "a@)", "a @b", "a.@1"} { // what has no form is told ahead of what is too deep
		noForm(t, "package p; var x = "+strings.Repeat("!", 100), s)
	}
	for s, want := range map[string]api.Errno{
		within(strings.Repeat("{", 97) + strings.Repeat("}", 97)): api.OK,
		within(strings.Repeat("{", 98) + strings.Repeat("}", 98)): api.ErrDeep,
		"package " + name:                                       api.OK,
		"package " + name + "n":                                 api.ErrDeep,
		within("var n" + name + " int"):                         api.ErrDeep,
		within("for n" + name + ", a := range b { }"):           api.ErrDeep,
		within("for a, n" + name + " := range b { }"):           api.ErrDeep,
		within("for " + name + ", " + name + " := range b { }"): api.OK,
	} {
		if n, at, e := File([]byte(s)); e != want || at != 0 || e != api.OK && !zero(n) {
			t.Errorf("P8.1: %.99s: %d at %d, want %d", s, e, at, want)
		}
	}
}

// TestEnds: what is as deep as a text can have it, is gone through.
func TestEnds(t *testing.T) {
	fill := func(ahead, part, middle, end, back string) string {
		count := (api.MaxSource - len(ahead+middle+back)) / len(part+end)
		return ahead + strings.Repeat(part, count) + middle + strings.Repeat(end, count) + back
	}
	for _, s := range []string{
		fill("package p;var x=", "(", "a", ")", ""),
		fill("package p;var x=", "a(", "a", ")", ""),
		fill("package p;var x=", "a[", "a", "]", ""),
		fill("package p;var x=", "a[", "a", "]", "{}"),
		fill("package p;var x=", "a{", "a", "}", ""),
		fill("package p;var x=", "a[[]a{", "", "}]", ""),
		fill("package p;var x=", "a[func(){b(", "", ")}]", ""),
		fill("package p;var x=", "!", "a", "", ""),
		fill("package p;var x=", "a+(", "a", ")", ""),
		fill("package p;var x=a", "+a", "", "", ""),
		fill("package p;var x=a", ".a", "", "", ""),
		fill("package p;var x=a", "()", "", "", ""),
		fill("package p;var x=", "func(){return ", "", "}", ""),
		fill("package p;var x ", "[]", "a", "", ""),
		fill("package p;var x ", "(", "a", ")", ""),
		fill("package p;var x ", "a[", "a", "]", ""),
		fill("package p;var x ", "func(", "a", ")", ""),
		fill("package p;var x ", "func()", "a", "", ""),
		fill("package p;func f(){", "{", "", "}", "}"),
		fill("package p;func f(){", "for{", "", "}", "}"),
		fill("package p;func f(){", "if a{", "", "}", "}"),
		fill("package p;func f(){if a{}", "else if a{}", "", "", "}"),
		fill("package p;func f(){", "if func(){", "", "}(){}", "}"),
		fill("package p;func f(){", ";", "", "", "}"),
		fill("package p;func f(){", "a();", "", "", "}"),
		fill("package p;func f(){", "for{};", "", "", "}"),
		fill("package p;func f(a b", ",a b", "", "", "){}"),
	} {
		_, at, e := File([]byte(s))
		if e != api.OK && e != api.ErrDeep || at != 0 {
			t.Errorf("P8.1: %.50s: %d at %d", s, e, at)
		}
		half := s[:len(s)/2]
		if _, at, e := File([]byte(half)); e == api.ErrForm && at != len(half) || e != api.ErrForm && (e != api.OK && e != api.ErrDeep || at != 0) {
			t.Errorf("P8.1: %.50s: %d at %d", half, e, at)
		}
	}
}

func TestNothingIsChanged(t *testing.T) {
	whole := []byte("package p\nvar x = T{\"a\", b} // spare room")
	was := bytes.Clone(whole)
	b := whole[:len("package p\nvar x = T{\"a\", b}")]
	n, _, e := File(b)
	const want = `(File "p" (Var "x" (None) (ELit 'T (EStr "a") b)))`
	if e != api.OK || form(n) != want || !bytes.Equal(whole, was) {
		t.Errorf("R4: what is handed in was changed: %s, %d", form(n), e)
	}
	clear(whole)
	if form(n) != want {
		t.Errorf("R4: what is handed in was kept: %s", form(n))
	}
	n.Kids[0].Kids[1].Kids[0] = api.Node{}
	_ = append(n.Kids[0].Kids[:1], api.Node{Kind: api.EInt})
	if again, _, _ := File(was[:len(b)]); form(again) != want {
		t.Errorf("R5: another answer: %s", form(again))
	}
}

func FuzzRead(f *testing.F) {
	for _, s := range []string{"package p\nfunc f[P any](a P) { for i := range T[int]{1} { } }", "package p; type T = func(a, []b) c", "a[func(b) c](-d)", "((", "package p\nvar x = T{0x1, `a`}"} {
		f.Add(s)
	}
	f.Fuzz(func(t *testing.T, s string) {
		for sort, read := range map[string]func(string) (api.Node, int, api.Errno){"file": func(s string) (api.Node, int, api.Errno) { return File([]byte(s)) }, "expression": Expr} {
			n, at, e := read(s)
			if e == api.OK && (at != 0 || !tree.Right(n, sort)) || e != api.OK && (at < 0 || at > len(s) || !zero(n)) {
				t.Errorf("P8.1: %d at %d", e, at)
			}
		}
	})
}
