package show

import (
	"slices"
	"strconv"
	"strings"
	"testing"

	"demotic/api"
	"demotic/lit"
	"demotic/place"
	"demotic/token"
	"demotic/tree"
)

func node(kind int, text string, kids ...api.Node) api.Node {
	return api.Node{Kind: kind, Text: text, Kids: kids}
}

func list(kids ...api.Node) api.Node             { return node(api.List, "", kids...) }
func named(s string, typ api.Node) api.Node      { return node(api.Param, s, typ) }
func typ(s string, kids ...api.Node) api.Node    { return node(api.TName, s, kids...) }
func slice(of api.Node) api.Node                 { return node(api.TSlice, "", of) }
func id(s string) api.Node                       { return node(api.EName, s) }
func num(n int) api.Node                         { return node(api.EInt, strconv.Itoa(n)) }
func str(s string) api.Node                      { return node(api.EStr, s) }
func un(sign string, x api.Node) api.Node        { return node(api.EUnary, sign, x) }
func bin(sign string, x, y api.Node) api.Node    { return node(api.EBinary, sign, x, y) }
func call(kids ...api.Node) api.Node             { return node(api.ECall, "", kids...) }
func index(kids ...api.Node) api.Node            { return node(api.EIndex, "", kids...) }
func field(x api.Node, s string) api.Node        { return node(api.EField, s, x) }
func lits(kids ...api.Node) api.Node             { return node(api.ELit, "", kids...) }
func lambda(sig, body api.Node) api.Node         { return node(api.EFunc, "", sig, body) }
func fn(result api.Node, l ...api.Node) api.Node { return node(api.TFunc, "", list(l...), result) }
func block(kids ...api.Node) api.Node            { return node(api.SBlock, "", kids...) }
func does(x api.Node) api.Node                   { return node(api.SExpr, "", call(x)) }
func short(s string, x api.Node) api.Node        { return node(api.SShort, s, x) }
func set(x, y api.Node) api.Node                 { return node(api.SAssign, "", x, y) }
func inc(sign string, x api.Node) api.Node       { return node(api.SInc, sign, x) }
func returned(x api.Node) api.Node               { return node(api.SReturn, "", x) }
func choice(x, then, other api.Node) api.Node    { return node(api.SIf, "", x, then, other) }
func loop(a, b, c, body api.Node) api.Node       { return node(api.SFor, "", a, b, c, body) }
func ranged(s string, x, body api.Node) api.Node { return node(api.SRange, s, x, body) }
func term(sign string, of api.Node) api.Node     { return node(api.Term, sign, of) }
func inter(terms ...api.Node) api.Node           { return node(api.TInter, "", terms...) }

var (
	none    = node(api.None, "")
	whole   = typ("int")
	a, b, c = id("a"), id("b"), id("c")
	one     = num(1)
	box     = lits(typ("T"), one)
)

// sample is a node of a sort, and its text.
type sample struct {
	sort string
	n    api.Node
	want string
}

func types() []sample {
	return []sample{
		{"type", whole, "int"},
		{"type", typ("_"), "_"},
		{"type", typ("T", whole), "T[int]"},
		{"type", typ("T", typ("U", whole, slice(whole)), fn(none)), "T[U[int, []int], func()]"},
		{"type", slice(whole), "[]int"},
		{"type", slice(slice(typ("T", whole))), "[][]T[int]"},
		{"type", fn(none), "func()"},
		{"type", fn(whole), "func() int"},
		{"type", fn(none, named("", whole)), "func(int)"},
		{"type", fn(slice(whole), named("", whole), named("", slice(typ("string")))), "func(int, []string) []int"},
		{"type", fn(fn(fn(none)), named("", fn(whole, named("", whole)))), "func(func(int) int) func() func()"},
		{"type", slice(fn(whole)), "[]func() int"},
	}
}

func expressions() []sample {
	return []sample{
		{"expression", num(0), "0"},
		{"expression", node(api.EInt, strings.Repeat("9", 200)), strings.Repeat("9", 200)},
		{"expression", a, "a"},
		{"expression", id("_"), "_"},
		{"expression", str(""), `""`},
		{"expression", str("a\"\\\n\t\r\x00\xff`ä"), `"a\"\\\n\t\x0d\x00\xff` + "`" + `\xc3\xa4"`},
		{"expression", un("-", a), "-a"},
		{"expression", un("!", a), "!a"},
		{"expression", un("!", un("!", a)), "!!a"},
		{"expression", un("!", un("-", a)), "!-a"},
		{"expression", un("-", un("!", a)), "-!a"},
		{"expression", un("-", un("-", a)), "-(-a)"},
		{"expression", un("-", un("-", un("-", a))), "-(-(-a))"},
		{"expression", un("-", one), "-1"},
		{"expression", un("-", bin("*", a, b)), "-(a * b)"},
		{"expression", un("!", bin("||", a, b)), "!(a || b)"},
		{"expression", bin("*", un("-", bin("+", a, b)), c), "-(a + b) * c"},
		{"expression", bin("-", un("-", a), un("-", b)), "-a - -b"},
		{"expression", bin("&&", un("!", a), un("!", b)), "!a && !b"},
		{"expression", call(a), "a()"},
		{"expression", call(a, b), "a(b)"},
		{"expression", call(a, bin("+", a, b), un("-", a), lits(typ("T"))), "a(a + b, -a, T{})"},
		{"expression", call(call(a), b), "a()(b)"},
		{"expression", call(field(index(a, b), "c")), "a[b].c()"},
		{"expression", call(un("-", a)), "(-a)()"},
		{"expression", call(bin("*", a, b), c), "(a * b)(c)"},
		{"expression", call(num(1)), "1()"},
		{"expression", call(str("a")), `"a"()`},
		{"expression", call(lits(typ("T"))), "T{}()"},
		{"expression", call(lambda(fn(none), block())), "func() {\n}()"},
		{"expression", index(a, b), "a[b]"},
		{"expression", index(a, b, slice(whole), fn(none), bin("+", a, one)), "a[b, []int, func(), a + 1]"},
		{"expression", index(a, fn(whole, named("", whole)), lambda(fn(none), block())), "a[func(int) int, func() {\n}]"},
		{"expression", index(un("!", a), b), "(!a)[b]"},
		{"expression", index(bin("+", a, b), c), "(a + b)[c]"},
		{"expression", index(index(a, b), c), "a[b][c]"},
		{"expression", index(a, un("-", b)), "a[-b]"},
		{"expression", field(a, "b"), "a.b"},
		{"expression", field(field(a, "b"), "_"), "a.b._"},
		{"expression", field(un("-", a), "b"), "(-a).b"},
		{"expression", field(bin("/", a, b), "c"), "(a / b).c"},
		{"expression", field(call(a), "b"), "a().b"},
		{"expression", un("-", field(a, "b")), "-a.b"},
		{"expression", lits(typ("T")), "T{}"},
		{"expression", lits(typ("T", whole, slice(whole)), a, bin("+", a, b)), "T[int, []int]{a, a + b}"},
		{"expression", lits(slice(whole), one, num(2)), "[]int{1, 2}"},
		{"expression", lits(slice(typ("T")), lits(typ("T"), lits(typ("T")))), "[]T{T{T{}}}"},
		{"expression", lits(slice(fn(none)), a), "[]func(){a}"},
		{"expression", lambda(fn(none), block()), "func() {\n}"},
		{"expression", lambda(fn(fn(none), named("a", whole), named("_", fn(none, named("", whole)))), block(returned(a))), "func(a int, _ func(int)) func() {\n\treturn a\n}"},
		{"expression", call(a, lambda(fn(none), block(returned(lambda(fn(none), block(does(b))))))), "a(func() {\n\treturn func() {\n\t\tb()\n\t}\n})"},
	}
}

func statements() []sample {
	body := block(does(a))
	const in = "{\n\ta()\n}"
	return []sample{
		{"statement", node(api.Var, "x", whole, none), "var x int"},
		{"statement", node(api.Var, "x", none, one), "var x = 1"},
		{"statement", node(api.Var, "_", slice(whole), bin("+", a, b)), "var _ []int = a + b"},
		{"statement", short("x", un("-", a)), "x := -a"},
		{"statement", set(field(a, "b"), c), "a.b = c"},
		{"statement", set(bin("+", a, b), lits(typ("T"))), "a + b = T{}"},
		{"statement", inc("++", index(a, b)), "a[b]++"},
		{"statement", inc("--", un("-", a)), "-a--"},
		{"statement", node(api.SExpr, "", call(a, b)), "a(b)"},
		{"statement", choice(a, block(), none), "if a {\n}"},
		{"statement", choice(a, body, block()), "if a " + in + " else {\n}"},
		{"statement", choice(a, block(), choice(b, block(), choice(c, body, body))), "if a {\n} else if b {\n} else if c " + in + " else " + in},
		{"statement", loop(none, none, none, block()), "for {\n}"},
		{"statement", loop(none, a, none, body), "for a " + in},
		{"statement", loop(short("i", one), none, none, block()), "for i := 1; ; {\n}"},
		{"statement", loop(short("i", one), a, none, block()), "for i := 1; a; {\n}"},
		{"statement", loop(set(a, one), none, inc("--", a), block()), "for a = 1; ; a-- {\n}"},
		{"statement", loop(inc("++", a), b, set(a, b), body), "for a++; b; a = b " + in},
		{"statement", loop(none, none, does(a), block()), "for ; ; a() {\n}"},
		{"statement", loop(none, a, does(a), block()), "for ; a; a() {\n}"},
		{"statement", ranged("", num(3), block()), "for range 3 {\n}"},
		{"statement", ranged("i", a, body), "for i := range a " + in},
		{"statement", ranged("_,v", a, block()), "for _, v := range a {\n}"},
		{"statement", ranged("k,v", lits(slice(whole), one), block()), "for k, v := range []int{1} {\n}"},
		{"statement", returned(none), "return"},
		{"statement", returned(bin("+", a, b)), "return a + b"},
		{"statement", node(api.SBreak, ""), "break"},
		{"statement", node(api.SContinue, ""), "continue"},
		{"statement", block(), "{\n}"},
		{"statement", block(block(block(), does(a)), returned(none)), "{\n\t{\n\t\t{\n\t\t}\n\t\ta()\n\t}\n\treturn\n}"},
		{"statement", loop(none, none, none, block(choice(a, block(node(api.SBreak, "")), none), does(lambda(fn(none), block(node(api.SContinue, "")))))), "for {\n\tif a {\n\t\tbreak\n\t}\n\tfunc() {\n\t\tcontinue\n\t}()\n}"},
	}
}

// heads are statements in whose heads a { behind a name would begin the block.
func heads() []sample {
	end := " {\n}"
	return []sample{
		{"statement", choice(box, block(), none), "if (T{1})" + end},
		{"statement", choice(lits(typ("T", whole)), block(), none), "if (T[int]{})" + end},
		{"statement", choice(lits(slice(typ("T")), box), block(), none), "if []T{T{1}}" + end},
		{"statement", choice(bin("==", box, box), block(), none), "if (T{1}) == (T{1})" + end},
		{"statement", choice(bin("&&", a, bin("||", box, b)), block(), none), "if a && (T{1} || b)" + end},
		{"statement", choice(un("!", box), block(), none), "if !(T{1})" + end},
		{"statement", choice(un("!", bin("==", a, box)), block(), none), "if !(a == T{1})" + end},
		{"statement", choice(un("-", un("-", box)), block(), none), "if -(-T{1})" + end},
		{"statement", choice(field(box, "a"), block(), none), "if (T{1}).a" + end},
		{"statement", choice(field(un("-", box), "a"), block(), none), "if (-T{1}).a" + end},
		{"statement", choice(index(box, box), block(), none), "if (T{1})[T{1}]" + end},
		{"statement", choice(call(box, box, a), block(), none), "if (T{1})(T{1}, a)" + end},
		{"statement", choice(call(field(box, "a"), un("-", box)), block(), none), "if (T{1}).a(-T{1})" + end},
		{"statement", choice(lits(typ("T"), box, lits(typ("U"), box)), block(), none), "if (T{T{1}, U{T{1}}})" + end},
		{"statement", choice(a, block(does(box)), choice(box, block(), none)), "if a {\n\tT{1}()\n} else if (T{1})" + end},
		{"statement", loop(none, box, none, block()), "for (T{1})" + end},
		{"statement", loop(short("x", box), box, set(box, box), block()), "for x := (T{1}); (T{1}); (T{1}) = (T{1})" + end},
		{"statement", loop(set(box, box), none, inc("++", box), block()), "for (T{1}) = (T{1}); ; (T{1})++" + end},
		{"statement", loop(inc("--", box), none, does(box), block()), "for (T{1})--; ; (T{1})()" + end},
		{"statement", ranged("", box, block()), "for range (T{1})" + end},
		{"statement", ranged("i,x", box, block(set(box, box))), "for i, x := range (T{1}) {\n\tT{1} = T{1}\n}"},
		{"statement", choice(call(lambda(fn(none), block(does(box), choice(box, block(), none)))), block(), none), "if func() {\n\tT{1}()\n\tif (T{1}) {\n\t}\n}()" + end},
		{"statement", choice(bin("==", call(lambda(fn(none), block())), box), block(), none), "if func() {\n}() == (T{1})" + end},
		{"statement", block(returned(box)), "{\n\treturn T{1}\n}"},
		{"statement", returned(call(lambda(fn(none), block(choice(a, block(), none))), box)), "return func() {\n\tif a {\n\t}\n}(T{1})"},
		{"statement", node(api.Var, "x", typ("T"), box), "var x T = T{1}"},
	}
}

func declarations() []sample {
	any := node(api.TParam, "P", typ("any"))
	sum := node(api.TParam, "Q", inter(term("~", whole), term("", typ("string"))))
	return []sample{
		{"declaration", node(api.Func, "f", list(), fn(none), block()), "func f() {\n}"},
		{"declaration", node(api.Func, "f", list(any), fn(typ("P"), named("a", typ("P"))), block(returned(a))), "func f[P any](a P) P {\n\treturn a\n}"},
		{"declaration", node(api.Func, "f", list(any, sum), fn(fn(whole), named("a", whole), named("_", slice(whole))), block()), "func f[P any, Q interface{ ~int | string }](a int, _ []int) func() int {\n}"},
		{"declaration", node(api.Func, "f", list(node(api.TParam, "P", typ("C", whole)), node(api.TParam, "_", inter(term("", whole)))), fn(none), block()), "func f[P C[int], _ interface{ int }]() {\n}"},
		{"declaration", node(api.Type, "T", list(), whole), "type T int"},
		{"declaration", node(api.Type, "T", list(any), slice(typ("P"))), "type T[P any] []P"},
		{"declaration", node(api.Type, "T", list(), slice(whole)), "type T []int"},
		{"declaration", node(api.Type, "T", list(), node(api.TStruct, "")), "type T struct {\n}"},
		{"declaration", node(api.Type, "T", list(any), node(api.TStruct, "", node(api.Field, "a", typ("P")), node(api.Field, "_", fn(none, named("", whole))))), "type T[P any] struct {\n\ta P\n\t_ func(int)\n}"},
		{"declaration", node(api.Type, "C", list(), inter(term("", whole))), "type C interface{ int }"},
		{"declaration", node(api.Type, "C", list(), inter(term("~", whole), term("", slice(whole)), term("~", fn(whole)))), "type C interface{ ~int | []int | ~func() int }"},
		{"declaration", node(api.Alias, "A", list(), fn(none)), "type A = func()"},
		{"declaration", node(api.Alias, "A", list(any, sum), typ("T", typ("P"))), "type A[P any, Q interface{ ~int | string }] = T[P]"},
		{"declaration", node(api.Var, "x", whole, none), "var x int"},
		{"declaration", node(api.Var, "x", none, lambda(fn(none), block(does(a)))), "var x = func() {\n\ta()\n}"},
	}
}

func samples() []sample {
	return slices.Concat(types(), expressions(), statements(), heads(), declarations())
}

func TestText(t *testing.T) {
	for _, s := range samples() {
		if got, e := Text(s.n, s.sort); e != api.OK || got != s.want {
			t.Errorf("P7.1: Text(%s) = %q, %d, want %q", s.sort, got, e, s.want)
		}
	}
}

func TestFile(t *testing.T) {
	for _, c := range []struct {
		n    api.Node
		want string
	}{
		{node(api.File, "main"), "package main\n"},
		{node(api.File, "p", node(api.Var, "x", whole, none)), "package p\n\nvar x int\n"},
		{node(api.File, "p", node(api.Func, "f", list(), fn(none), block()), node(api.Alias, "A", list(), whole)), "package p\n\nfunc f() {\n}\n\ntype A = int\n"},
	} {
		if got, e := File(c.n); e != api.OK || string(got) != c.want {
			t.Errorf("P7.1: File = %q, %d, want %q", got, e, c.want)
		}
	}
	want := "package main\n"
	var l []api.Node
	for _, s := range declarations() {
		l = append(l, s.n)
		want += "\n" + s.want + "\n"
	}
	if got, e := File(node(api.File, "main", l...)); e != api.OK || string(got) != want {
		t.Errorf("P7.1: File = %q, %d, want %q", got, e, want)
	}
}

// TestOperands holds each sign on each side of each other one against the table of the document.
func TestOperands(t *testing.T) {
	binds := map[string]int{}
	for i, row := range []string{"||", "&&", "== != < <= > >=", "+ -", "* / %"} {
		for _, sign := range strings.Fields(row) {
			binds[sign] = i
		}
	}
	for outer := range binds {
		for inner := range binds {
			left, right := a.Text+" "+inner+" "+b.Text, a.Text+" "+inner+" "+b.Text
			if binds[inner] < binds[outer] {
				left = "(" + left + ")"
			}
			if binds[inner] <= binds[outer] {
				right = "(" + right + ")"
			}
			n := bin(outer, bin(inner, a, b), bin(inner, a, b))
			if got, e := Text(n, "expression"); e != api.OK || got != left+" "+outer+" "+right {
				t.Errorf("P7.1: %s, with %s on both sides: %s, %d", outer, inner, got, e)
			}
		}
		for _, sign := range []string{"-", "!"} {
			if got, _ := Text(bin(outer, un(sign, a), un(sign, b)), "expression"); got != sign+"a "+outer+" "+sign+"b" {
				t.Errorf("P7.1: %s", got)
			}
			if got, _ := Text(un(sign, bin(outer, a, b)), "expression"); got != sign+"(a "+outer+" b)" {
				t.Errorf("P7.1: %s", got)
			}
		}
	}
}

func TestWrong(t *testing.T) {
	sorts := []string{"file", "declaration", "type", "expression", "statement", "signature"}
	file := node(api.File, "p", node(api.Func, "f", list(), fn(none), block()))
	all := append(samples(), sample{sort: "file", n: file}, sample{sort: "signature", n: fn(none, named("a", whole))})
	for _, s := range all {
		for _, sort := range slices.Concat(sorts, []string{"", "x", "Type", "expressions", " type", "none", "parameter of types"}) {
			right := sort != "file" && sort != "signature" && tree.Right(s.n, sort)
			got, e := Text(s.n, sort)
			if right != (e == api.OK) || !right && (e != api.ErrTree || got != "") {
				t.Errorf("P7.1: Text of a %s as %q: %q, %d", s.sort, sort, got, e)
			}
		}
		if got, e := File(s.n); (e == api.OK) != (s.sort == "file") || e != api.OK && (e != api.ErrTree || got != nil) {
			t.Errorf("P7.1: File of a %s: %q, %d", s.sort, got, e)
		}
	}
	for _, n := range []api.Node{{}, node(api.EInt, "01"), node(api.EName, "if"), un("+", a), bin("&", a, b), call(), index(a), index(a, whole), node(api.Kinds, ""), node(-1, ""), lits(fn(none)), bin("+", a, bin("+", b, none))} {
		if got, e := Text(n, "expression"); e != api.ErrTree || got != "" {
			t.Errorf("P7.1: Text(%v) = %q, %d", n, got, e)
		}
		if got, e := File(node(api.File, "p", node(api.Var, "x", none, n))); e != api.ErrTree || got != nil {
			t.Errorf("P7.1: File with %v: %q, %d", n, got, e)
		}
	}
	if got, e := File(node(api.File, "if")); e != api.ErrTree || got != nil {
		t.Errorf("P7.1: %q, %d", got, e)
	}
}

// TestDeep: what is as deep as may be is told, what is deeper is none.
func TestDeep(t *testing.T) {
	n, want := a, "a"
	for range 99 {
		n, want = un("-", n), "-("+want+")"
	}
	want = strings.Replace(want, "(a)", "a", 1)
	if got, e := Text(n, "expression"); e != api.OK || got != want {
		t.Errorf("P7.1: %q, %d", got, e)
	}
	for range 10000 {
		n = un("-", n)
	}
	if got, e := Text(n, "expression"); e != api.ErrTree || got != "" {
		t.Errorf("P7.1: %.99q, %d", got, e)
	}
	blocks := block()
	for range 99 {
		blocks = block(blocks)
	}
	got, e := Text(blocks, "statement")
	if lines := strings.Split(got, "\n"); e != api.OK || len(lines) != 200 || lines[99] != strings.Repeat("\t", 99)+"{" || lines[100] != strings.Repeat("\t", 99)+"}" {
		t.Errorf("P7.1: %d lines, %d", len(lines), e)
	}
}

// TestGreat: a file may have as many nodes as there may be, and its text more bytes than a file that is read.
func TestGreat(t *testing.T) {
	const count = 1<<16 - 5 // beside the File, the Var, its None, the ELit and its TName
	l := slices.Repeat([]api.Node{str("\xff")}, count)
	n := node(api.File, "p", node(api.Var, "x", none, lits(append([]api.Node{typ("T")}, l...)...)))
	got, e := File(n)
	if want := "package p\n\nvar x = T{" + strings.Repeat(`"\xff", `, count-1) + `"\xff"` + "}\n"; e != api.OK || string(got) != want {
		t.Errorf("P7.1: %d bytes, %d, want %d", len(got), e, len(want))
	}
	n.Kids[0].Kids[1].Kids = append(n.Kids[0].Kids[1].Kids, one)
	if got, e := File(n); e != api.ErrTree || got != nil {
		t.Errorf("P7.1: %d bytes, %d", len(got), e)
	}
}

// words tells the tokens of a tree, in order, but for brackets, commas and semicolons, and what tells its kind.
func words(n api.Node) []string {
	var l []string
	add := func(kids ...api.Node) {
		for _, kid := range kids {
			l = append(l, words(kid)...)
		}
	}
	switch n.Kind {
	case api.EStr:
		l = append(l, lit.Quote(n.Text))
	case api.EBinary:
		add(n.Kids[0])
		l = append(l, n.Text)
		add(n.Kids[1])
	case api.EField, api.SInc:
		add(n.Kids...)
		l = append(l, n.Text)
	case api.SRange:
		l = append(l, strings.FieldsFunc(n.Text, func(r rune) bool { return r == ',' })...)
		add(n.Kids...)
	default:
		if n.Text != "" {
			l = append(l, n.Text)
		}
		add(n.Kids...)
	}
	return l
}

// TestTokens: a file's text is one of layer 1, and its tokens are the tree's.
func TestTokens(t *testing.T) {
	var l []api.Node
	for _, s := range samples() {
		switch s.sort {
		case "type":
			l = append(l, node(api.Var, "v", s.n, none))
		case "expression":
			l = append(l, node(api.Var, "v", none, s.n))
		case "statement":
			l = append(l, node(api.Func, "f", list(), fn(none), block(s.n)))
		default:
			l = append(l, s.n)
		}
	}
	for _, d := range l {
		n := node(api.File, "p", d)
		text, e := File(n)
		if e != api.OK || place.Wrong(text) >= 0 {
			t.Fatalf("P7.2: %q, %d", text, e)
		}
		tokens, at, e := token.Scan(text)
		if e != api.OK {
			t.Fatalf("P7.2: %q at %d: %d", text, at, e)
		}
		var got []string
		for _, x := range tokens {
			if !slices.Contains(strings.Fields("package func type var struct interface if else for range return break continue ( ) [ ] { } , ; := = . |"), x.Text) && x.Text != "\n" {
				got = append(got, x.Text)
			}
		}
		if want := words(n); !slices.Equal(got, want) {
			t.Errorf("P7.2: the tokens of %q are %q, of the tree %q", text, got, want)
		}
	}
}

// TestLines: no line ends with a blank, and each ends but the last one of what is no file.
func TestLines(t *testing.T) {
	for _, s := range samples() {
		text, _ := Text(s.n, s.sort)
		for line := range strings.SplitSeq(text, "\n") {
			if strings.TrimRight(line, " \t") != line || strings.Contains(strings.TrimLeft(line, "\t"), "\t") || strings.Contains(line, "  ") {
				t.Errorf("P7.1: blanks in %q", line)
			}
		}
	}
}

func TestNothingIsChanged(t *testing.T) {
	for _, s := range samples() {
		was := tree.Copy(s.n)
		first, _ := Text(s.n, s.sort)
		again, _ := Text(s.n, s.sort)
		if !tree.Same(s.n, was) || first != again {
			t.Errorf("R4: %s was changed, or R5: %q, then %q", s.sort, first, again)
		}
	}
	n := node(api.File, "p", node(api.Var, "x", none, one))
	text, _ := File(n)
	clear(text)
	if again, _ := File(n); string(again) != "package p\n\nvar x = 1\n" {
		t.Errorf("R4: %q", again)
	}
}
