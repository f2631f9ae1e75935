package gate_test

import (
	"go/ast"
	"go/parser"
	gotoken "go/token"
	"go/types"
	"math/rand/v2"
	"slices"
	"strings"
	"testing"

	"demotic/api"
	"demotic/gate"
	"demotic/read"
	"demotic/tree"
)

// marked is a text without its marks, and where they stood: @ for what needs 18, ^ for what needs 24.
func marked(s string) (string, []gate.Use) {
	var l []gate.Use
	var b strings.Builder
	for _, r := range s {
		switch r {
		case '@':
			l = append(l, gate.Use{Minor: 18, At: b.Len()})
		case '^':
			l = append(l, gate.Use{Minor: 24, At: b.Len()})
		default:
			b.WriteRune(r)
		}
	}
	return b.String(), l
}

func file(t *testing.T, s string) api.Node {
	t.Helper()
	n, at, e := read.File([]byte(s))
	if e != api.OK {
		t.Fatalf("%q is not read: %d at %d", s, e, at)
	}
	return n
}

// texts are files, with marks where a version is needed.
func texts() []string {
	return []string{
		"package main", "package main\n\nfunc main() { println(len(\"a\"), 1 + 2) }\n",
		"package p; type A = []int; type B []A; type C struct { a int; b []func(int) B }; var v C; var w = 1; func f(a int, b func(int, []int) int) int { return a }",
		"package p; func f(x []int) { for range x { x[0]++; x[x[0]] = x[1] }; for i, j := range x { f(x) }; if x[0] == 1 { f([]int{1}) } else { _ = func(a int) { x[a] = 2 } } }",
		"package p; func f() { min(1, 2); clear(x); for range 10 {}; var a any; println(a) }; var any2 comparable", // what names mean is asked elsewhere
		"package p; ^type A[@P any] = []P", "package p; ^type A[@P any, Q any, R comparable] = []P; ^type B[@_ any] = int; type C = int",
		"package p; type A[@P any] []P", "package p; type A[@P any, Q comparable] struct { a P }; type B struct {}", "package p; func f[@P any](a P) P { return a }; func g() {}",
		"package p; func f[@P int](a P) {}; func g[@P ~int | string](a P) {}; func h[@P interface{ ~int }](a P) {}; func i[@P @C[int]](a P) {}",
		"package p; type C @interface { ~int | string }; type D int", "package p; type C @interface { @L[int] | []@M[@L[int], int] }",
		"package p; type B @L[int]; type D = @L[int]; type E struct { a @L[int]; b []@L[int]; c int }; type F func(@L[int]) @M[int, string]; var v @L[int]; var w []@L[@L[[]int]] = 1",
		"package p; func f(a @L[int], b []int, c func(@L[int])) @L[string] { var x @L[int]; var y []int; _ = func(a @L[int]) @L[bool] { return a }; return x }",
		"package p; func f() { _ = @L[int]{1, 2}; _ = []@L[int]{@L[int]{}}; _ = L{1}; _ = @M[int, []int]{} }",
		"package p; func f() { @f[int, string](1); f[int](1); @f[[]int](2); @f[func(int) int](3); x[0] = y[1]; @f[a, b, c](4); @f[[]@L[int]](5) }",
		"package p; func f() { x[len([]int{1})]++; x[@g[int, int](1)]++; @f[1, 2](); x[y[0]][z[1]] = 1; @f[int, int](@g[[]int](1)[0]) }",
		"package p; var v = @f[int, @g[int, int]](1); var w = @f[[]int]",
		"package p; func f[@P any, Q @L[P]](a @L[P]) { if @f[P, Q](a) == 1 { for i := @g[[]P](a); i < @h[int, int](); i++ { @f[func()]() } } else { for range @g[[]int](a) { return } } }",
		"package p; func f() int { z := -@g[[]int](1) + !@h[a, b]; z.a.b = @g[int, int](1).a; return @f[[]int](1) }",
	}
}

func TestUses(t *testing.T) {
	for _, s := range texts() {
		s, want := marked(s)
		if got := gate.Uses(file(t, s)); !slices.Equal(got, want) {
			t.Errorf("P13.1: Uses of %s: %v, want %v", s, got, want)
		}
	}
}

func TestFirst(t *testing.T) {
	for _, s := range texts() {
		s, l := marked(s)
		n := file(t, s)
		for _, minor := range []int{-1 << 63, -1, 0, 1, 16, 17, 18, 19, 22, 23, 24, 25, 99, 1<<63 - 1} {
			var want gate.Use
			i := slices.IndexFunc(l, func(u gate.Use) bool { return u.Minor > minor })
			if i >= 0 {
				want = l[i]
			}
			if got, ok := gate.First(n, minor); got != want || ok != (i >= 0) {
				t.Errorf("P13.1: First of %s above %d: %v, %v, want %v", s, minor, got, ok, want)
			}
		}
	}
}

func node(kind int, at int, text string, kids ...api.Node) api.Node {
	return api.Node{Kind: kind, Text: text, Kids: kids, At: at}
}

// generic is an alias with a parameter of types, of a name with types.
func generic(alias, first, name int) api.Node {
	params := node(api.List, 1, "", node(api.TParam, first, "P", node(api.TName, 3, "any")), node(api.TParam, 4, "Q", node(api.TName, 5, "any")))
	return node(api.Alias, alias, "A", params, node(api.TName, name, "L", node(api.TName, 6, "P")))
}

// TestOrder: by where it stands, then by the version, each pair once, wherever a node says that it begins.
func TestOrder(t *testing.T) {
	u := func(l ...int) []gate.Use {
		var uses []gate.Use
		for i := 0; i < len(l); i += 2 {
			uses = append(uses, gate.Use{Minor: l[i], At: l[i+1]})
		}
		return uses
	}
	for _, c := range []struct {
		kids []api.Node
		want []gate.Use
	}{
		{[]api.Node{generic(5, 7, 30)}, u(24, 5, 18, 7, 18, 30)},
		{[]api.Node{generic(30, 7, 5)}, u(18, 5, 18, 7, 24, 30)},
		{[]api.Node{generic(7, 7, 7)}, u(18, 7, 24, 7)},
		{[]api.Node{generic(0, 0, 0), generic(0, 0, 0)}, u(18, 0, 24, 0)},
		{[]api.Node{generic(9, 8, 7), generic(6, 5, 4), generic(8, 9, 1)}, u(18, 1, 18, 4, 18, 5, 24, 6, 18, 7, 18, 8, 24, 8, 18, 9, 24, 9)},
		{[]api.Node{generic(-1, 1<<63-1, -1<<63), generic(0, -1<<63, 1<<63-1)}, u(18, -1<<63, 24, -1, 24, 0, 18, 1<<63-1)},
	} {
		n := node(api.File, 2, "main", c.kids...)
		if got := gate.Uses(n); !slices.Equal(got, c.want) {
			t.Errorf("P13.1: Uses(%v) = %v, want %v", n, got, c.want)
		}
	}
	if got, ok := gate.First(node(api.File, 0, "main", generic(5, 7, 3)), 18); got != (gate.Use{Minor: 24, At: 5}) || !ok {
		t.Errorf("P13.1: First above 18: %v, %v", got, ok)
	}
	if got, ok := gate.First(node(api.File, 0, "main", generic(5, 5, 7)), 17); got != (gate.Use{Minor: 18, At: 5}) || !ok {
		t.Errorf("P13.1: First above 17: %v, %v", got, ok)
	}
}

// TestNoFile: of what is no right file nothing is told.
func TestNoFile(t *testing.T) {
	decl := generic(5, 7, 30)
	right := node(api.File, 0, "main", decl)
	if len(gate.Uses(right)) != 3 {
		t.Fatal("P13.1: the file itself is not right")
	}
	deep := node(api.TName, 0, "L", node(api.TName, 0, "P"))
	for range 100 {
		deep = node(api.TSlice, 0, "", deep)
	}
	wrongs := []api.Node{
		{}, decl, decl.Kids[1], node(api.EIndex, 0, ""), node(api.Alias, 0, "A"), node(api.Alias, 0, "A", node(api.List, 0, "")), node(api.Func, 0, ""), node(-1, 0, "main", decl), node(api.File, 0, "", decl), node(api.File, 0, "func", decl), node(api.File, 0, "main", decl, api.Node{}), node(api.File, 0, "main", node(api.Alias, 0, "A")),
		node(api.File, 0, "main", right), node(api.File, 0, "main", decl, node(api.EIndex, 0, "")), node(api.File, 0, "main", decl, node(api.Type, 0, "T", node(api.List, 0, ""), deep)), node(api.File, 0, "main", slices.Repeat([]api.Node{decl}, 1<<14)...), node(api.TInter, 0, ""),
		node(api.File, 0, "main", node(api.Var, 0, "v", api.Node{}, node(api.EIndex, 0, ""))), node(api.File, 0, "main", node(api.Type, 0, "T", node(api.List, 0, ""), node(api.TInter, 0, ""))),
	}
	for _, n := range wrongs {
		if got := gate.Uses(n); len(got) > 0 {
			t.Errorf("P13.1: Uses of what is no file: %v", got)
		}
		if got, ok := gate.First(n, 0); ok || got != (gate.Use{}) {
			t.Errorf("P13.1: First of what is no file: %v, %v", got, ok)
		}
	}
}

// TestAsFound holds uses against the nodes that layer 6 finds.
func TestAsFound(t *testing.T) {
	for _, s := range texts() {
		s, _ := marked(s)
		n := file(t, s)
		at := map[gate.Use]struct{}{}
		for _, kind := range []int{api.Func, api.Type, api.Alias, api.TName, api.EIndex} {
			for _, x := range tree.Find(n, kind) {
				switch list := tree.Find(x, api.List); {
				case kind == api.TName && tree.Size(x) > 1, kind == api.EIndex && (len(x.Kids) > 2 || !tree.Right(x.Kids[1], "expression")):
					at[gate.Use{Minor: 18, At: x.At}] = struct{}{}
				case kind == api.Type && x.Kids[1].Kind == api.TInter:
					at[gate.Use{Minor: 18, At: x.Kids[1].At}] = struct{}{}
				case kind != api.TName && kind != api.EIndex && len(list[0].Kids) > 0:
					at[gate.Use{Minor: 18, At: list[0].Kids[0].At}] = struct{}{}
					if kind == api.Alias {
						at[gate.Use{Minor: 24, At: x.At}] = struct{}{}
					}
				}
			}
		}
		got := gate.Uses(n)
		if len(got) != len(at) {
			t.Errorf("P13.1: Uses of %s: %v, want %v", s, got, at)
		}
		for i, u := range got {
			if _, ok := at[u]; !ok || i > 0 && (got[i-1].At > u.At || got[i-1].At == u.At && got[i-1].Minor >= u.Minor) {
				t.Errorf("P13.1: Uses of %s: %v", s, got)
			}
		}
	}
}

// TestAsGo holds what is needed against what Go refuses at a version: of modules that it takes at a newer one.
func TestAsGo(t *testing.T) {
	pieces := []string{
		"type I int; var vi I = 1", "type L[P any] []P", "type LI []int", "^type AL[P any] = []P", "type AI = []int", "func f[P any](a P) P { return a }", "func g(a int) int { return a }", "type C interface { ~int | string }", "type S struct { a []int }",
		"func h() []int { x := []int{1}; x[0] = x[x[0]]; return x }", "func k(a func(int) []int) []int { return a(1) }",
	}
	uses := []string{"var a L[int]", "var b = f[[]int]", "var c AL[int]", "func d(a L[L[int]]) {}", "func e[P C](a P) {}", "type M[P C] struct { a P }", "var m = L[int]{1}", "type N L[int]", "type O = AL[int]"}
	needs := map[string][]string{"var a L[int]": {"type L[P any] []P"}, "var b = f[[]int]": {"func f[P any](a P) P { return a }"}, "var c AL[int]": {"^type AL[P any] = []P"}, "func d(a L[L[int]]) {}": {"type L[P any] []P"}, "func e[P C](a P) {}": {"type C interface { ~int | string }"}, "type M[P C] struct { a P }": {"type C interface { ~int | string }"}, "var m = L[int]{1}": {"type L[P any] []P"}, "type N L[int]": {"type L[P any] []P"}, "type O = AL[int]": {"^type AL[P any] = []P"}}
	chance := rand.New(rand.NewPCG(13, 1))
	refused := 0
	for range 600 {
		chosen := []string{"package p"}
		for _, x := range append(slices.Clone(pieces), uses...) {
			if chance.IntN(6) == 0 {
				chosen = append(append(chosen, needs[x]...), x)
			}
		}
		slices.Sort(chosen[1:])
		s, _ := marked(strings.Join(slices.Compact(chosen), "\n"))
		n := file(t, s)
		for minor, version := range map[int]string{17: "go1.17", 18: "go1.18", 22: "go1.22", 24: "go1.24"} {
			_, ok := gate.First(n, minor)
			if goTakes(t, s, version) == ok {
				t.Errorf("P13.1: First of\n%s\nabove %d: %v", s, minor, ok)
			}
			if ok {
				refused++
			}
		}
	}
	if refused < 300 {
		t.Errorf("few are refused: %d", refused)
	}
}

func goTakes(t *testing.T, s, version string) bool {
	t.Helper()
	fset := gotoken.NewFileSet()
	file, err := parser.ParseFile(fset, "a.go", s, 0)
	if err != nil {
		t.Fatalf("%v in\n%s", err, s)
	}
	_, err = (&types.Config{GoVersion: version}).Check("p", fset, []*ast.File{file}, nil)
	if err != nil && version == "go1.24" {
		t.Fatalf("%v in\n%s", err, s)
	}
	return err == nil
}

// TestNothingChanged: what is handed in stays as it is; what is handed out is memory of its own.
func TestNothingChanged(t *testing.T) {
	s, want := marked("package p; ^type A[@P any] = @L[P]; func f() { @f[int, []int](1) }")
	n := file(t, s)
	before := tree.Copy(n)
	got := gate.Uses(n)
	got = append(got[:0], gate.Use{Minor: 1}, gate.Use{Minor: 2})
	if again := gate.Uses(n); !slices.Equal(again, want) || len(got) != 2 {
		t.Errorf("R4: Uses answers %v then", again)
	}
	if !tree.Same(before, n) || !slices.Equal(ats(before), ats(n)) {
		t.Error("R4: the tree was changed")
	}
}

// ats tells where all nodes of a tree begin.
func ats(n api.Node) []int {
	l := []int{n.At}
	for _, kid := range n.Kids {
		l = append(l, ats(kid)...)
	}
	return l
}
