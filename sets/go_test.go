package sets_test

import (
	"go/ast"
	"go/parser"
	gotoken "go/token"
	"go/types"
	"strings"
	"testing"

	"demotic/kinds"
	"demotic/sets"
)

// goText tells a constraint as Go has it.
func goText(s sets.Set) string {
	switch {
	case s.All:
		return "any"
	case s.Comparable:
		return "comparable"
	}
	var l []string
	for _, x := range s.Terms {
		if x.Tilde {
			l = append(l, "~"+x.Name)
		} else {
			l = append(l, x.Name)
		}
	}
	return "interface{ " + strings.Join(l, " | ") + " }"
}

// goRights are the right constraints in which each name is once: Go has no other ones.
func goRights() []sets.Set {
	l := []sets.Set{all, comparable}
	for i := 1; i < 27; i++ { // each name is not there, or alone, or with ~
		var names []string
		for j, way := range []int{i % 3, i / 3 % 3, i / 9} {
			if way > 0 {
				names = append(names, []string{"", "~"}[way-1]+[]string{"int", "string", "bool"}[j])
			}
		}
		l = append(l, union(names...))
	}
	return l
}

// TestAsGo holds what is let in against what Go's own constraints let in.
func TestAsGo(t *testing.T) {
	const src = `package p
type N int
type T string
type Z bool
type NN N
type I []int
type K[P any] int
type L[P any] []P
type A = int
type AT = T
type AK[P any] = K[P]
`
	l := []kinds.Def{
		{Name: "N", Type: whole}, {Name: "T", Type: text}, {Name: "Z", Type: truth}, {Name: "NN", Type: named("N")}, {Name: "I", Type: slice(whole)},
		{Name: "K", Params: []string{"P"}, Type: whole}, {Name: "L", Params: []string{"P"}, Type: slice(param("P"))},
		{Name: "A", Type: whole, Alias: true}, {Name: "AT", Type: named("T"), Alias: true}, {Name: "AK", Params: []string{"P"}, Type: named("K", param("P")), Alias: true},
	}
	args := []kinds.Type{
		whole, text, truth, named("N"), named("T"), named("Z"), named("NN"), named("I"), named("K", slice(text)), named("L", whole), named("A"), named("AT"), named("AK", named("I")),
		slice(whole), of(6, "", whole, whole), slice(param("P")), named("K", param("P")), param("P"),
	}
	found := 0
	for _, own := range goRights() {
		scope := []sets.Bound{{Name: "P", Set: own}}
		for _, s := range goRights() {
			for i, ok := range goLets(t, src, goText(own), goText(s), args) {
				if got := sets.Lets(l, scope, s, args[i]); got != ok {
					t.Errorf("P11.1: %s lets %s (P is %s): %v", goText(s), kinds.Text(args[i]), goText(own), got)
				}
				if ok {
					found++
				}
			}
		}
	}
	if found < 2000 {
		t.Errorf("few were let in: %d", found)
	}
}

// goLets tells which types Go's constraint lets in, where P is a parameter with a constraint of its own.
func goLets(t *testing.T, src, own, s string, args []kinds.Type) []bool {
	t.Helper()
	var b strings.Builder
	b.WriteString(src + "func f[P " + own + ", S " + s + "](")
	for _, x := range args {
		b.WriteString("_ " + kinds.Text(x) + ", ")
	}
	b.WriteString(") {}\n")
	fset := gotoken.NewFileSet()
	file, err := parser.ParseFile(fset, "a.go", b.String(), 0)
	if err != nil {
		t.Fatalf("%v in\n%s", err, b.String())
	}
	pack, err := (&types.Config{}).Check("p", fset, []*ast.File{file}, nil)
	if err != nil {
		t.Fatalf("%v in\n%s", err, b.String())
	}
	f := pack.Scope().Lookup("f").Type().(*types.Signature)
	constraint := f.TypeParams().At(1).Constraint().Underlying().(*types.Interface)
	var l []bool
	for v := range f.Params().Variables() {
		l = append(l, types.Satisfies(v.Type(), constraint))
	}
	return l
}
