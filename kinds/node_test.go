package kinds_test

import (
	"slices"
	"strconv"
	"strings"
	"testing"

	"demotic/api"
	"demotic/kinds"
	"demotic/read"
	"demotic/show"
	"demotic/tree"
)

func node(kind int, text string, kids ...api.Node) api.Node {
	return api.Node{Kind: kind, Text: text, Kids: kids}
}

func tname(s string, kids ...api.Node) api.Node { return node(api.TName, s, kids...) }
func tslice(n api.Node) api.Node                { return node(api.TSlice, "", n) }

// tfunc is the tree of a function's type: its result first.
func tfunc(result api.Node, params ...api.Node) api.Node {
	list := node(api.List, "")
	for _, n := range params {
		list.Kids = append(list.Kids, node(api.Param, "", n))
	}
	return node(api.TFunc, "", list, result)
}

func field(s string, n api.Node) api.Node { return node(api.Field, s, n) }

func tstruct(fields ...api.Node) api.Node { return node(api.TStruct, "", fields...) }

var (
	none = node(api.None, "")
	tint = tname("int")
)

// sample is a tree, its type where P and Q are parameters, and its text.
type sample struct {
	n    api.Node
	t    kinds.Type
	text string
}

func samples() []sample {
	return []sample{
		{tint, whole, "int"},
		{tname("string"), text, "string"},
		{tname("bool"), truth, "bool"},
		{tname("P"), p, "P"},
		{tname("Q"), q, "Q"},
		{tname("R"), named("R"), "R"},
		{tname("Int"), named("Int"), "Int"},
		{tname("any"), named("any"), "any"},
		{tname("_"), named("_"), "_"},
		{tname("T", tint), named("T", whole), "T[int]"},
		{tname("P", tint), named("P", whole), "P[int]"},
		{tname("P", tname("P")), named("P", p), "P[P]"},
		{tname("int", tname("string")), named("int", text), "int[string]"},
		{tname("T", tname("Q"), tname("U", tname("P"), tslice(tint))), named("T", q, named("U", p, slice(whole))), "T[Q, U[P, []int]]"},
		{tslice(tint), slice(whole), "[]int"},
		{tslice(tslice(tname("P"))), slice(slice(p)), "[][]P"},
		{tfunc(none), fn(nothing), "func()"},
		{tfunc(tint), fn(whole), "func() int"},
		{tfunc(none, tint), fn(whole, nothing), "func(int)"},
		{tfunc(tname("Q"), tname("P"), tslice(tname("P"))), fn(p, slice(p), q), "func(P, []P) Q"},
		{tfunc(tfunc(none, tint), tfunc(none), tname("T", tfunc(tint))), fn(fn(nothing), named("T", fn(whole)), fn(whole, nothing)), "func(func(), T[func() int]) func(int)"},
		{tname(strings.Repeat("n", 100)), named(strings.Repeat("n", 100)), strings.Repeat("n", 100)},
	}
}

func TestOfAndTreeAndText(t *testing.T) {
	for _, s := range samples() {
		if !tree.Right(s.n, "type") {
			t.Fatalf("%s is no sample", s.text)
		}
		if got := kinds.Of(s.n, []string{"P", "Q"}); !equal(got, s.t) {
			t.Errorf("P10.2: Of(%s) = %v", s.text, got)
		}
		if got := kinds.Tree(s.t); !tree.Same(got, s.n) {
			t.Errorf("P10.2: Tree(%v) = %v", s.t, got)
		}
		if got := kinds.Text(s.t); got != s.text {
			t.Errorf("P10.2: Text(%v) = %q", s.t, got)
		}
		if got := kinds.Of(kinds.Tree(s.t), []string{"P", "Q"}); !equal(got, s.t) {
			t.Errorf("P10.3: Of(Tree(%v)) = %v", s.t, got)
		}
	}
}

func TestOfParams(t *testing.T) {
	n := tfunc(tname("A", tname("A")), tname("A"), tname("int"), tslice(tname("string")))
	for _, c := range []struct {
		params []string
		want   kinds.Type
	}{
		{nil, fn(named("A"), whole, slice(text), named("A", named("A")))},
		{[]string{"a", "", "A "}, fn(named("A"), whole, slice(text), named("A", named("A")))},
		{[]string{"A"}, fn(param("A"), whole, slice(text), named("A", param("A")))},
		{[]string{"string", "int", "int"}, fn(named("A"), param("int"), slice(param("string")), named("A", named("A")))},
	} {
		if got := kinds.Of(n, c.params); !equal(got, c.want) {
			t.Errorf("P10.2: Of with %q: %v", c.params, got)
		}
	}
	var params []string
	var kids []api.Node
	var want []kinds.Type
	for i := range 200 {
		s := "N" + strconv.Itoa(i)
		kids = append(kids, tname(s))
		if i%2 == 0 {
			params = append(params, s)
			want = append(want, param(s))
		} else {
			want = append(want, named(s))
		}
	}
	if got := kinds.Of(tname("T", kids...), params); !equal(got, named("T", want...)) {
		t.Errorf("P10.2: Of with many parameters: %v", got)
	}
}

func TestOfAStruct(t *testing.T) {
	for _, c := range []struct {
		n    api.Node
		want kinds.Type
	}{
		{tstruct(), structure("")},
		{tstruct(field("a", tint)), structure("a", whole)},
		{tstruct(field("b", tname("P")), field("a", tslice(tname("Q")))), structure("b,a", p, slice(q))},
		{tstruct(field("a", tint), field("a", tname("T", tname("P"))), field("_", tfunc(none))), structure("a,a,_", whole, named("T", p), fn(nothing))},
		{tstruct(field(strings.Repeat("a", 100), tint)), structure(strings.Repeat("a", 100), whole)},
	} {
		if got := kinds.Of(c.n, []string{"P", "Q"}); !equal(got, c.want) {
			t.Errorf("P10.2: Of(%v) = %v", c.n, got)
		}
		if got := kinds.Tree(c.want); !tree.Same(got, none) || kinds.Text(c.want) != "" {
			t.Errorf("P10.2: Tree(%v) = %v", c.want, got)
		}
	}
}

// noTypes are no trees of types.
func noTypes() []api.Node {
	long := strings.Repeat("n", 101)
	term := node(api.Term, "", tint)
	param := node(api.Param, "", tint)
	list := node(api.List, "")
	inter := node(api.TInter, "", term)
	return []api.Node{
		none, node(api.None, "x"), tname(""), tname("1"), tname("if"), tname("a b"), tname("\xff"), tname("ä"), tname(long), tname("T", none), tname("T", tname("")), tname("T", node(api.EName, "x")),
		node(api.TSlice, ""), node(api.TSlice, "x", tint), node(api.TSlice, "", tint, tint), tslice(none), tslice(tstruct()), tslice(inter), tslice(tname(long)),
		node(api.TFunc, ""), node(api.TFunc, "", list), node(api.TFunc, "", none, none), node(api.TFunc, "", list, none, none), node(api.TFunc, "x", list, none), node(api.TFunc, "", node(api.List, "x"), none),
		node(api.TFunc, "", node(api.List, "", tint), none), node(api.TFunc, "", node(api.List, "", node(api.Param, "a", tint)), none), node(api.TFunc, "", node(api.List, "", node(api.Param, "")), none), tfunc(none, none), tfunc(tstruct()), tfunc(node(api.EName, "x")),
		inter, term, param, list, node(api.Field, "a", tint), node(api.TParam, "P", tint), node(api.EName, "x"), node(api.EInt, "1"), node(api.EIndex, "", node(api.EName, "T"), node(api.EName, "int")),
		node(api.Type, "T", list, tint), node(api.Alias, "T", list, tint), node(api.File, "main"), node(api.Kinds, ""), node(-1, ""),
		node(api.TStruct, "x"), tstruct(none), tstruct(tint), tstruct(field("", tint)), tstruct(field("1", tint)), tstruct(field("if", tint)), tstruct(field("a,b", tint)), tstruct(field(long, tint)),
		tstruct(node(api.Field, "a")), tstruct(node(api.Field, "a", tint, tint)), tstruct(field("a", none)), tstruct(field("a", tstruct())), tstruct(field("a", inter)), tstruct(field("a", tname(long))), tstruct(field("a", node(api.EName, "x"))),
		tstruct(node(api.Param, "a", tint)), tstruct(node(api.Var, "a", tint, none)), tstruct(field("a", tint), none), tstruct(field("a", tint), field("b", none)), tstruct(list),
	}
}

func TestOfNoTypes(t *testing.T) {
	for _, n := range noTypes() {
		if got := kinds.Of(n, []string{"P", "", "x"}); !equal(got, no) {
			t.Errorf("P10.2: Of(%v) = %v", n, got)
		}
		for _, in := range []api.Node{tslice(n), tname("T", tint, n), tfunc(none, n), tfunc(n, tint), tstruct(field("a", n))} {
			if got := kinds.Of(in, nil); !equal(got, no) && n.Kind != api.None {
				t.Errorf("P10.2: Of(%v) = %v", in, got)
			}
		}
	}
}

// TestOfDeepTrees: a right tree has 100 nodes within one another at most, one of a struct, too.
func TestOfDeepTrees(t *testing.T) {
	n, want := tname("P"), p
	for deep := 1; deep <= 150; deep++ { // so many nodes within one another
		if got := kinds.Of(n, []string{"P"}); equal(got, want) != (deep <= 100) || equal(got, no) != (deep > 100) {
			t.Errorf("P10.2: Of %d nodes within one another: %.100v", deep, got)
		}
		if got := kinds.Text(want); (got == strings.Repeat("[]", deep-1)+"P") != (deep <= 100) || (got == "") != (deep > 100) {
			t.Errorf("P10.2: Text of %d types within one another: %.100q", deep, got)
		}
		if got := kinds.Tree(want); got.Kind == api.None || tree.Depth(got) != min(deep, 101) {
			t.Errorf("P10.2: Tree of %d types within one another: %.100v", deep, got)
		}
		if got := kinds.Of(tstruct(field("a", n), field("b", tint)), []string{"P"}); equal(got, structure("a,b", want, whole)) != (deep+2 <= 100) || equal(got, no) != (deep+2 > 100) {
			t.Errorf("P10.2: Of a struct of %d nodes within one another: %.100v", deep+2, got)
		}
		n, want = tslice(n), slice(want)
	}
	if got := kinds.Of(tstruct(field("a", kinds.Tree(deep(9990, p)))), nil); !equal(got, no) {
		t.Errorf("P10.2: Of a deep struct: %.100v", got)
	}
}

// TestOfGreatTrees: a right tree has 2^16 nodes at most, one of a struct, too.
func TestOfGreatTrees(t *testing.T) {
	kids := slices.Repeat([]api.Node{tint}, 1<<16)
	if got := kinds.Of(tname("T", kids[1:]...), nil); !equal(got, named("T", slices.Repeat([]kinds.Type{whole}, 1<<16-1)...)) {
		t.Error("P10.2: Of 2^16 nodes")
	}
	if got := kinds.Of(tname("T", kids...), nil); !equal(got, no) {
		t.Errorf("P10.2: Of more than 2^16 nodes: %.100v", got)
	}
	fields := slices.Repeat([]api.Node{field("a", tint)}, 1<<15-2)
	l := slices.Repeat([]kinds.Type{whole}, 1<<15-2)
	names := strings.Repeat("a,", 1<<15-2)
	if got := kinds.Of(tstruct(append(slices.Clone(fields), field("b", tslice(tint)))...), nil); !equal(got, structure(names+"b", append(slices.Clone(l), slice(whole))...)) {
		t.Error("P10.2: Of a struct of 2^16 nodes")
	}
	if got := kinds.Of(tstruct(append(slices.Clone(fields), field("b", tslice(tslice(tint))))...), nil); !equal(got, no) {
		t.Errorf("P10.2: Of a struct of more than 2^16 nodes: %.100v", got)
	}
}

// TestNoTree: what has none, and what has such in it.
func TestNoTree(t *testing.T) {
	without := []kinds.Type{
		no, of(0, "int", whole), untyped("int"), nothing, structure(""), structure("a", whole), of(9, "int"), of(-1, "int"), of(5, ""), of(5, "", whole, whole), fn(),
		named("N", no), named("N", whole, untyped("int")), named("N", nothing), slice(nothing), slice(structure("a", whole)), slice(fn()), fn(no), fn(no, nothing), fn(untyped("int")), fn(nothing, nothing), fn(nothing, whole), fn(whole, structure("")), fn(slice(no), nothing), fn(whole, slice(nothing)), fn(fn(), whole),
	}
	for _, x := range without {
		if got := kinds.Tree(x); got.Kind != api.None || got.Text != "" || len(got.Kids) > 0 || kinds.Text(x) != "" {
			t.Errorf("P10.2: Tree(%v) = %v", x, got)
		}
		result := none
		for _, in := range []kinds.Type{slice(x), named("N", whole, x), fn(x, whole), fn(x, x), fn(whole, x)} {
			if x.Kind == 7 && equal(in, fn(whole, x)) {
				result = tfunc(none, tint)
			}
			if got := kinds.Tree(in); !tree.Same(got, result) || kinds.Text(in) == "" != (result.Kind == api.None) {
				t.Errorf("P10.2: Tree(%v) = %v", in, got)
			}
		}
		for _, kind := range []int{1, 4} {
			in := of(kind, "int", x, whole)
			if got := kinds.Tree(in); !tree.Same(got, tname("int", none, tint)) || kinds.Text(in) != "" {
				t.Errorf("P10.2: Tree(%v) = %v", in, got)
			}
		}
	}
	if got := kinds.Tree(fn(of(7, "x", whole))); !tree.Same(got, tfunc(none)) {
		t.Errorf("P10.2: a result of the kind 7: %v", got)
	}
}

// TestTreeOfAnyName: a tree has a name as it is; its text has it just if it is right.
func TestTreeOfAnyName(t *testing.T) {
	for _, s := range []string{"", "if", "1", "a b", "\xff", strings.Repeat("n", 101)} {
		for _, kind := range []int{1, 3, 4} {
			if got := kinds.Tree(slice(of(kind, s))); !tree.Same(got, tslice(tname(s))) || kinds.Text(slice(of(kind, s))) != "" {
				t.Errorf("P10.2: Tree of the name %q: %v", s, got)
			}
		}
	}
	for _, kind := range []int{1, 3, 4} {
		x := of(kind, "T", whole, slice(p))
		if got := kinds.Tree(x); !tree.Same(got, tname("T", tint, tslice(tname("P")))) || kinds.Text(x) != "T[int, []P]" {
			t.Errorf("P10.2: Tree(%v) = %v", x, got)
		}
	}
	if got := kinds.Tree(of(5, "x", whole)); !tree.Same(got, tslice(tint)) {
		t.Errorf("P10.2: a slice's name is in its tree: %v", got)
	}
}

// TestRead: the types that stand in texts.
func TestRead(t *testing.T) {
	for _, c := range []struct{ text, want string }{
		{"[](int)", "[]int"},
		{"T[ int,[]P , func ( ) (U [P]) , ]", "T[int, []P, func() U[P]]"},
		{"func(func(P,) ([]Q)) T[int]", "func(func(P) []Q) T[int]"},
	} {
		n, at, e := read.File([]byte("package p\nvar x " + c.text + "\n"))
		if e != api.OK {
			t.Fatalf("%s: %d, %d", c.text, at, e)
		}
		x := kinds.Of(n.Kids[0].Kids[0], []string{"P"})
		if got := kinds.Text(x); got != c.want {
			t.Errorf("P10.2: Text of %s: %q", c.text, got)
		}
		if got := kinds.Tree(x); !tree.Same(got, n.Kids[0].Kids[0]) {
			t.Errorf("P10.3: Tree of %s: %v", c.text, got)
		}
		if s, _ := show.Text(kinds.Tree(x), "type"); s != kinds.Text(x) {
			t.Errorf("P10.2: Text is not layer 7's: %q", s)
		}
	}
}

// TestNothingIsKept: what is handed in stays, and what is told is in memory of its own.
func TestNothingIsKept(t *testing.T) {
	l := definitions()
	n := tfunc(tname("T", tint), tname("P"), tslice(tint))
	x := fn(named("AL", p), named("L", named("A")), slice(whole))
	by := []kinds.Type{named("M", whole, text)}
	calls := map[string]func() kinds.Type{
		"With":   func() kinds.Type { return kinds.With(x, []string{"P"}, by) },
		"Full":   func() kinds.Type { return kinds.Full(l, x) },
		"of one": func() kinds.Type { return kinds.Full(l, named("AN")) },
		"Behind": func() kinds.Type { return kinds.Behind(l, x) },
		"of M":   func() kinds.Type { return kinds.Behind(l, named("M", fn(whole), text)) },
		"of H":   func() kinds.Type { return kinds.Behind(l, named("H", slice(whole))) },
		"of F":   func() kinds.Type { return kinds.Behind(l, named("F")) },
		"Of":     func() kinds.Type { return kinds.Of(n, []string{"P"}) },
	}
	wasX, wasBy, wasN := copied(x), copied(by[0]), tree.Copy(n)
	for name, call := range calls {
		first := call()
		want := copied(first)
		spoil(first)
		if again := call(); !equal(again, want) || !equal(x, wasX) || !equal(by[0], wasBy) || !tree.Same(n, wasN) {
			t.Errorf("R4: %s tells what is kept: %v, then %v", name, want, again)
		}
	}
	first := kinds.Tree(x)
	first.Kids[0].Kids[0].Kids[0].Kids[0].Text = "spoilt"
	first.Kids[0].Text = "spoilt"
	if kinds.Text(x) != "func(AL[P], L[A]) []int" || !equal(x, wasX) {
		t.Errorf("R4: Tree tells what is kept: %s", kinds.Text(x))
	}
}

// spoil overwrites all that is in a type, and the room behind its lists' ends.
func spoil(t kinds.Type) {
	for i := range t.Args {
		spoil(t.Args[i])
	}
	l := t.Args[:cap(t.Args)]
	for i := range l {
		l[i] = named("spoilt")
	}
}

// TestRoomBehindLists: what stands behind a list's end is not overwritten.
func TestRoomBehindLists(t *testing.T) {
	room := []kinds.Type{named("A"), p, text, text}
	x := kinds.Type{Kind: 6, Args: room[:2]}
	l := []kinds.Def{{Name: "A", Type: kinds.Type{Kind: 6, Args: room[:1]}, Params: []string{"Z"}[:0], Alias: false}}
	kinds.With(x, []string{"P"}, room[:1])
	kinds.Full(l, x)
	kinds.Behind(l, named("A"))
	kinds.Tree(x)
	kinds.Assigns(l, x, named("A"))
	if !equal(fn(room...), fn(named("A"), p, text, text)) {
		t.Errorf("R4: %v", room)
	}
}
