package kinds_test

import (
	"go/ast"
	"go/parser"
	gotoken "go/token"
	"go/types"
	"math/rand/v2"
	"strconv"
	"strings"
	"testing"

	"demotic/kinds"
)

// world is a Go package of random definitions, and of one function whose parameters have random types.
type world struct {
	chance *rand.Rand
	l      []kinds.Def
	text   strings.Builder
}

// kind makes a type of the first names that are defined, and of parameters.
func (w *world) kind(deep int, params []string) kinds.Type {
	one := func() kinds.Type { return w.kind(deep-1, params) }
	if n := w.chance.IntN(8); deep == 0 || n < 2 {
		if len(params) > 0 && w.chance.IntN(2) == 0 {
			return param(params[w.chance.IntN(len(params))])
		}
		return []kinds.Type{whole, text, truth}[w.chance.IntN(3)]
	} else if n == 2 {
		return slice(one())
	} else if n == 3 {
		l := []kinds.Type{one(), nothing}
		if w.chance.IntN(2) == 0 {
			l = []kinds.Type{one(), one(), one()}
		}
		return fn(l[w.chance.IntN(2):]...)
	}
	if len(w.l) == 0 {
		return whole
	}
	d := w.l[w.chance.IntN(len(w.l))]
	t := named(d.Name)
	for range d.Params {
		t.Args = append(t.Args, one())
	}
	return t
}

func (w *world) put(l ...string) {
	for _, s := range l {
		w.text.WriteString(s)
	}
}

// define makes a definition, of what was defined ahead of it.
func (w *world) define(name string) {
	params := [][]string{nil, nil, {"P"}, {"P", "Q"}}[w.chance.IntN(4)]
	d := kinds.Def{Name: name, Params: params, Type: w.kind(2, params), Alias: w.chance.IntN(2) == 0}
	for d.Type.Kind == 4 { // Go has no such definition
		d.Type = w.kind(2, params)
	}
	w.put("type ", name)
	if len(params) > 0 {
		w.put("[", strings.Join(params, ", "), " any]")
	}
	if d.Alias {
		w.put(" =")
	}
	if !d.Alias && w.chance.IntN(6) == 0 {
		d.Type = structure("a,b", d.Type, w.kind(1, params))
		w.put(" struct { a ", kinds.Text(d.Type.Args[0]), "; b ", kinds.Text(d.Type.Args[1]), " }\n")
	} else {
		w.put(" ", kinds.Text(d.Type), "\n")
	}
	w.l = append(w.l, d)
}

// fromGo is a type of Go's own, its aliases written out.
func fromGo(t types.Type) kinds.Type {
	row := func(n int, at func(int) types.Type) []kinds.Type {
		var l []kinds.Type
		for i := range n {
			l = append(l, fromGo(at(i)))
		}
		return l
	}
	switch x := types.Unalias(t).(type) {
	case *types.Basic:
		return basic(x.Name())
	case *types.Named:
		return named(x.Obj().Name(), row(x.TypeArgs().Len(), x.TypeArgs().At)...)
	case *types.TypeParam:
		return param(x.Obj().Name())
	case *types.Slice:
		return slice(fromGo(x.Elem()))
	case *types.Struct:
		return structure("a,b", fromGo(x.Field(0).Type()), fromGo(x.Field(1).Type()))
	case *types.Signature:
		l := row(x.Params().Len(), func(i int) types.Type { return x.Params().At(i).Type() })
		if x.Results().Len() == 0 {
			return fn(append(l, nothing)...)
		}
		return fn(append(l, fromGo(x.Results().At(0).Type()))...)
	}
	return no
}

// checked is what Go has of the types that the function's parameters have.
func checked(t *testing.T, src string) []types.Type {
	t.Helper()
	fset := gotoken.NewFileSet()
	file, err := parser.ParseFile(fset, "a.go", src, 0)
	if err != nil {
		t.Fatalf("%v in\n%s", err, src)
	}
	pack, err := (&types.Config{}).Check("p", fset, []*ast.File{file}, nil)
	if err != nil {
		t.Fatalf("%v in\n%s", err, src)
	}
	var l []types.Type
	for v := range pack.Scope().Lookup("f").Type().(*types.Signature).Params().Variables() {
		l = append(l, v.Type())
	}
	return l
}

// asGo holds a type in full, and what stands behind it, against what Go has of it.
func asGo(t *testing.T, w *world, x kinds.Type, goes types.Type) {
	t.Helper()
	if got, want := kinds.Full(w.l, x), fromGo(goes); !equal(got, want) {
		t.Errorf("P10.1: Full(%s) = %v, want %v\n%s", kinds.Text(x), got, want, w.text.String())
	}
	if _, is := types.Unalias(goes).(*types.TypeParam); is {
		return // Go has a constraint behind it
	}
	behind := goes.Underlying()
	if got, want := kinds.Full(w.l, kinds.Behind(w.l, x)), fromGo(behind); !equal(got, want) {
		t.Errorf("P10.1: Behind(%s) = %v, want %v\n%s", kinds.Text(x), got, want, w.text.String())
	}
	_, isStruct := behind.(*types.Struct) // Go compares these, the fragment does not
	if got, want := kinds.Comparable(w.l, x), types.Comparable(goes) && !isStruct; got != want {
		t.Errorf("P10.1: Comparable(%s) = %v\n%s", kinds.Text(x), got, w.text.String())
	}
	b, isBasic := behind.(*types.Basic)
	if got, want := kinds.Ordered(w.l, x), isBasic && b.Info()&types.IsOrdered != 0; got != want {
		t.Errorf("P10.1: Ordered(%s) = %v\n%s", kinds.Text(x), got, w.text.String())
	}
}

// function makes a function's head, and tells the types of its parameters.
func (w *world) function(params int) []kinds.Type {
	var l []kinds.Type
	w.put("func f[X, Y any](")
	for i := range params {
		x := w.kind(2, []string{"X", "Y"})
		if i > 0 && w.chance.IntN(3) == 0 {
			if behind := kinds.Behind(w.l, l[i-1]); kinds.Text(behind) != "" {
				x = behind
			}
		}
		l = append(l, x)
		w.put("v", strconv.Itoa(i), " ", kinds.Text(x), ", ")
	}
	w.put(") {}\n")
	return l
}

// TestAsGo holds types against those of Go's own.
func TestAsGo(t *testing.T) {
	chance := rand.New(rand.NewPCG(10, 3))
	found := map[string]int{}
	for range 400 {
		w := &world{chance: chance}
		w.put("package p\n")
		for i := range 8 {
			w.define("T" + strconv.Itoa(i))
		}
		l := w.function(14)
		theirs := checked(t, w.text.String())
		for i, a := range theirs {
			asGo(t, w, l[i], a)
			for j, b := range theirs {
				same, assigns := types.Identical(a, b), types.AssignableTo(a, b)
				if got := kinds.Same(kinds.Full(w.l, l[i]), kinds.Full(w.l, l[j])); got != same {
					t.Errorf("P10.1: Same of %s and %s in full: %v\n%s", kinds.Text(l[i]), kinds.Text(l[j]), got, w.text.String())
				}
				if got := kinds.Assigns(w.l, l[i], l[j]); got != assigns {
					t.Errorf("P10.1: Assigns(%s, %s) = %v\n%s", kinds.Text(l[i]), kinds.Text(l[j]), got, w.text.String())
				}
				switch {
				case same && i != j:
					found["same"]++
				case assigns && i != j:
					found["assigned"]++
				}
			}
		}
	}
	if found["same"] < 500 || found["assigned"] < 500 {
		t.Errorf("few were found: %v", found)
	}
}
