package unify_test

import (
	"go/ast"
	"go/parser"
	gotoken "go/token"
	"go/types"
	"slices"
	"strconv"
	"strings"
	"testing"

	"demotic/kinds"
	"demotic/unify"
)

const goDefinitions = `package p
type N int
type R []string
type I []int
type F func(int) []int
type L[P any] []P
type M[P, Q any] func(P) Q
type A = int
type AR = R
type AL[P any] = []P
type AN[P any] = L[P]
`

// goArgs are what stands in a call for types: a variable, or what has no type.
func goArgs() []kinds.Type {
	return row(whole, text, named("A"), named("AR"), named("I"), named("F"), named("AL", text), named("AN", text), named("M", whole, text), slice(whole), slice(named("R")), fn(whole, text), fn(slice(whole), nothing), named("L", slice(whole)), untyped("int"), untyped("string"))
}

func goText(t kinds.Type) string {
	switch {
	case t.Kind == 2 && t.Name == "int":
		return "7"
	case t.Kind == 2:
		return `"a"`
	}
	return "*new(" + kinds.Text(t) + ")"
}

// TestAsGo holds what is found against what Go finds for the same calls: where both the operands may be assigned to
// what they are found for, Go finds the same. Go finds more: of a named type and of what stands behind it, the named one;
// it finds less: what a function without a result has as its result.
func TestAsGo(t *testing.T) {
	l := []kinds.Def{
		def("N", whole), def("R", slice(text)), def("I", slice(whole)), def("F", fn(whole, slice(whole))), def("L", slice(p), "P"), def("M", fn(p, q), "P", "Q"),
		alias("A", whole), alias("AR", named("R")), alias("AL", slice(p), "P"), alias("AN", named("L", p), "P"),
	}
	patterns := row(p, q, slice(p), slice(slice(q)), fn(p, q), fn(p, nothing), named("M", p, q), named("AL", q), named("AN", slice(p)))
	names := []string{"P", "Q"}
	byName := func(pattern, t kinds.Type) bool { // a name against none
		return kinds.Full(l, pattern).Kind == 3 && kinds.Full(l, t).Kind != 3
	}
	var b strings.Builder
	b.WriteString(goDefinitions)
	for i, x := range patterns {
		for j, y := range patterns {
			b.WriteString("func f" + strconv.Itoa(i) + "_" + strconv.Itoa(j) + "[P, Q any](a " + kinds.Text(x) + ", b " + kinds.Text(y) + ") {}\n")
		}
	}
	b.WriteString("func main() {\n")
	line := strings.Count(b.String(), "\n") + 1
	for i := range patterns {
		for j := range patterns {
			for _, x := range goArgs() {
				for _, y := range goArgs() {
					b.WriteString("f" + strconv.Itoa(i) + "_" + strconv.Itoa(j) + "(" + goText(x) + ", " + goText(y) + ")\n")
				}
			}
		}
	}
	goes := goFinds(t, b.String()+"}\n")
	found, missed := 0, 0
	for _, a := range patterns {
		for _, b := range patterns {
			for _, x := range goArgs() {
				for _, y := range goArgs() {
					by, ok := unify.Find(l, names, row(a, b), row(x, y))
					ok = ok && kinds.Assigns(l, x, kinds.With(a, names, by)) && kinds.Assigns(l, y, kinds.With(b, names, by))
					if ok && !hasNothing(by) {
						found++
						if want := kinds.Text(by[0]) + ";" + kinds.Text(by[1]); goes[line] != want {
							t.Errorf("P12.1: of %s, %s and %s, %s is found %s, by Go %s", kinds.Text(a), kinds.Text(b), goText(x), goText(y), want, goes[line])
						}
					} else if goes[line] != "" {
						missed++
						if !byName(a, x) && !byName(b, y) && !mixed(l, x, y) {
							t.Errorf("P12.1: of %s, %s and %s, %s nothing is found, by Go %s", kinds.Text(a), kinds.Text(b), goText(x), goText(y), goes[line])
						}
					}
					line++
				}
			}
		}
	}
	if found < 1000 || missed > 100 {
		t.Errorf("found: %d, by Go alone: %d", found, missed)
	}
}

func hasNothing(l []kinds.Type) bool {
	return slices.ContainsFunc(l, func(t kinds.Type) bool { return t.Kind == 7 })
}

// mixed: is one of two types named, and the other one, or a part of it, the same but for its name?
func mixed(l []kinds.Def, x, y kinds.Type) bool {
	parts := func(t kinds.Type) []kinds.Type {
		t = kinds.Full(l, t)
		all := row(t)
		for i := 0; i < len(all); i++ {
			all = append(all, kinds.Behind(l, all[i]).Args...)
		}
		return all
	}
	for _, a := range parts(x) {
		for _, b := range parts(y) {
			if !kinds.Same(a, b) && (a.Kind == 3) != (b.Kind == 3) && kinds.Same(kinds.Behind(l, a), kinds.Behind(l, b)) {
				return true
			}
		}
	}
	return false
}

// goFinds tells of each line with a call that Go has as right which types it finds.
func goFinds(t *testing.T, src string) map[int]string {
	t.Helper()
	fset := gotoken.NewFileSet()
	file, err := parser.ParseFile(fset, "a.go", src, 0)
	if err != nil {
		t.Fatal(err)
	}
	wrong := map[int]bool{}
	config := types.Config{Error: func(err error) { wrong[fset.Position(err.(types.Error).Pos).Line] = true }}
	info := types.Info{Instances: map[*ast.Ident]types.Instance{}}
	config.Check("p", fset, []*ast.File{file}, &info)
	calls := slices.MaxFunc(file.Decls, func(a, b ast.Decl) int { return int(a.Pos() - b.Pos()) }).(*ast.FuncDecl).Body.List
	if at := fset.Position(calls[0].Pos()).Line; len(wrong) == len(calls) || wrong[at-1] {
		t.Fatal("all is wrong")
	}
	found := map[int]string{}
	for _, call := range calls {
		line := fset.Position(call.Pos()).Line
		if wrong[line] {
			continue
		}
		var texts []string
		for x := range info.Instances[call.(*ast.ExprStmt).X.(*ast.CallExpr).Fun.(*ast.Ident)].TypeArgs.Types() {
			texts = append(texts, types.TypeString(full(x), func(*types.Package) string { return "" }))
		}
		found[line] = strings.Join(texts, ";")
	}
	return found
}

// full is Go's type without its aliases.
func full(t types.Type) types.Type {
	t = types.Unalias(t)
	switch x := t.(type) {
	case *types.Slice:
		return types.NewSlice(full(x.Elem()))
	case *types.Signature:
		turn := func(l *types.Tuple) *types.Tuple {
			var vars []*types.Var
			for v := range l.Variables() {
				vars = append(vars, types.NewParam(0, nil, "", full(v.Type())))
			}
			return types.NewTuple(vars...)
		}
		return types.NewSignatureType(nil, nil, nil, turn(x.Params()), turn(x.Results()), false)
	}
	return t
}
