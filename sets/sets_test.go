package sets_test

import (
	"slices"
	"strconv"
	"strings"
	"testing"

	"demotic/api"
	"demotic/kinds"
	"demotic/sets"
)

func node(kind int, text string, kids ...api.Node) api.Node {
	return api.Node{Kind: kind, Text: text, Kids: kids}
}

func tname(s string, kids ...api.Node) api.Node      { return node(api.TName, s, kids...) }
func term(sign, s string, kids ...api.Node) api.Node { return node(api.Term, sign, tname(s, kids...)) }
func inter(terms ...api.Node) api.Node               { return node(api.TInter, "", terms...) }

func of(kind int, name string, l ...kinds.Type) kinds.Type {
	return kinds.Type{Kind: kind, Name: name, Args: l}
}

func named(s string, l ...kinds.Type) kinds.Type { return of(3, s, l...) }
func param(s string) kinds.Type                  { return of(4, s) }
func slice(t kinds.Type) kinds.Type              { return of(5, "", t) }

// union is one of names, with ~ ahead or without.
func union(l ...string) sets.Set {
	var s sets.Set
	for _, name := range l {
		if name[0] == '~' {
			s.Terms = append(s.Terms, sets.Term{Tilde: true, Name: name[1:]})
		} else {
			s.Terms = append(s.Terms, sets.Term{Name: name})
		}
	}
	return s
}

var (
	all        = sets.Set{All: true}
	comparable = sets.Set{Comparable: true}
	nothing    = sets.Set{}
	whole      = of(1, "int")
	text       = of(1, "string")
	truth      = of(1, "bool")
)

func equal(a, b sets.Set) bool {
	return a.All == b.All && a.Comparable == b.Comparable && slices.Equal(a.Terms, b.Terms)
}

// rights are right constraints.
func rights() []sets.Set {
	return []sets.Set{
		all, comparable, union("int"), union("~int"), union("string"), union("~string"), union("bool"), union("~bool"), union("int", "int"), union("int", "~int"), union("~int", "int"),
		union("~int", "string"), union("int", "~string"), union("int", "string", "bool"), union("~int", "~string", "~bool"), union("bool", "string", "~bool", "int"),
	}
}

// wrongs are no constraints.
func wrongs() []sets.Set {
	return []sets.Set{
		nothing, {All: true, Comparable: true}, {All: true, Terms: union("int").Terms}, {Comparable: true, Terms: union("~int").Terms}, {All: true, Comparable: true, Terms: union("int").Terms},
		{Terms: []sets.Term{}}, {Terms: []sets.Term{{}}}, {Terms: []sets.Term{{Tilde: true}}}, union("Int"), union("N"), union("any"), union("comparable"), union("~ int"), union("int "), union("int", "N"), union("N", "~int"), union("int", "~string", "uint"),
	}
}

func TestRight(t *testing.T) {
	for _, s := range rights() {
		if !sets.Right(s) {
			t.Errorf("P11.1: Right(%v) = false", s)
		}
	}
	for _, s := range wrongs() {
		if sets.Right(s) {
			t.Errorf("P11.1: Right(%v) = true", s)
		}
	}
	if !sets.Right(sets.Set{All: true, Terms: []sets.Term{}}) {
		t.Error("R3: an empty list is another one")
	}
}

func TestOf(t *testing.T) {
	given := []sets.Bound{{"C", union("~int", "string")}, {"C", all}, {"D", comparable}, {"E", all}}
	hidden := append([]sets.Bound{{"any", union("int")}, {"comparable", all}, {"int", union("~bool")}, {"any", comparable}}, given...)
	for _, c := range []struct {
		n     api.Node
		given []sets.Bound
		want  sets.Set
		ok    bool
	}{
		{tname("any"), nil, all, true},
		{tname("any"), given, all, true},
		{tname("comparable"), nil, comparable, true},
		{tname("comparable"), given, comparable, true},
		{tname("C"), given, union("~int", "string"), true},
		{tname("D"), given, comparable, true},
		{tname("E"), given, all, true},
		{tname("any"), hidden, union("int"), true},
		{tname("comparable"), hidden, all, true},
		{tname("int"), hidden, union("~bool"), true},
		{inter(term("", "int")), hidden, union("int"), true},
		{inter(term("", "int")), nil, union("int"), true},
		{inter(term("~", "int")), nil, union("~int"), true},
		{inter(term("~", "bool"), term("", "string"), term("", "int"), term("~", "int"), term("", "int")), given, union("~bool", "string", "int", "~int", "int"), true},
		// none
		{tname("C"), nil, nothing, false},
		{tname("F"), given, nothing, false},
		{tname("c"), given, nothing, false},
		{tname("int"), given, nothing, false},
		{tname("Any"), given, nothing, false},
		{tname(""), given, nothing, false},
		{tname("any", tname("int")), hidden, nothing, false},
		{tname("comparable", tname("int")), nil, nothing, false},
		{tname("C", tname("int")), given, nothing, false},
		{inter(), nil, nothing, false},
		{inter(term("", "C")), given, nothing, false},
		{inter(term("", "any")), nil, nothing, false},
		{inter(term("", "comparable")), nil, nothing, false},
		{inter(term("~", "N")), nil, nothing, false},
		{inter(term("", "int"), term("", "N")), nil, nothing, false},
		{inter(term("", "N"), term("", "int")), nil, nothing, false},
		{inter(term("", "int", tname("int"))), nil, nothing, false},
		{inter(term("", "int"), term("~", "int", tname("int"))), nil, nothing, false},
		{inter(node(api.Term, "", node(api.TSlice, "", tname("int")))), nil, nothing, false},
		{inter(node(api.Term, "~", node(api.TFunc, "", node(api.List, ""), api.Node{}))), nil, nothing, false},
		{inter(node(api.Term, "", node(api.EName, "int"))), nil, nothing, false},
		{inter(node(api.Term, "")), nil, nothing, false},
		{inter(node(api.Term, "", tname("int"), tname("int"))), nil, nothing, false},
		{inter(term("~~", "int")), nil, nothing, false},
		{inter(term("!", "int")), nil, nothing, false},
		{inter(tname("int")), nil, nothing, false},
		{inter(node(api.TSlice, "", tname("int"))), nil, nothing, false},
		{inter(term("", "int"), node(api.Field, "", tname("int"))), nil, nothing, false},
		{inter(term("", "int"), api.Node{}), nil, nothing, false},
		{node(api.TInter, "any", term("", "int")), nil, nothing, false},
		{term("", "int"), nil, nothing, false},
		{term("~", "int"), nil, nothing, false},
		{node(api.Term, "C"), given, nothing, false},
		{node(api.EName, "any"), nil, nothing, false},
		{node(api.EName, "C"), given, nothing, false},
		{node(api.TSlice, "", tname("any")), nil, nothing, false},
		{node(api.TSlice, "any"), nil, nothing, false},
		{node(api.TStruct, ""), nil, nothing, false},
		{node(api.TParam, "P", tname("any")), nil, nothing, false},
		{api.Node{}, given, nothing, false},
		{node(api.None, "any"), given, nothing, false},
		{node(-1, "C"), given, nothing, false},
	} {
		if got, ok := sets.Of(c.n, c.given); !equal(got, c.want) || ok != c.ok {
			t.Errorf("P11.1: Of(%v, %v) = %v, %v", c.n, c.given, got, ok)
		}
	}
}

func TestOfRights(t *testing.T) {
	for _, s := range rights()[2:] {
		var kids []api.Node
		for _, x := range s.Terms {
			sign := ""
			if x.Tilde {
				sign = "~"
			}
			kids = append(kids, term(sign, x.Name))
		}
		if got, ok := sets.Of(inter(kids...), nil); !equal(got, s) || !ok {
			t.Errorf("P11.1: Of(%v) = %v, %v", kids, got, ok)
		}
	}
}

func TestFind(t *testing.T) {
	scope := []sets.Bound{{"P", all}, {"Q", union("~int")}, {"P", comparable}, {"", union("string")}, {"W", nothing}}
	for _, c := range []struct {
		name string
		want sets.Set
		ok   bool
	}{
		{"P", all, true}, {"Q", union("~int"), true}, {"", union("string"), true}, {"W", nothing, true}, {"R", nothing, false}, {"p", nothing, false}, {"any", nothing, false}, {"int", nothing, false},
	} {
		if got, ok := sets.Find(scope, c.name); !equal(got, c.want) || ok != c.ok {
			t.Errorf("P11.1: Find(%q) = %v, %v", c.name, got, ok)
		}
	}
	if got, ok := sets.Find(nil, "P"); !equal(got, nothing) || ok {
		t.Errorf("P11.1: Find in nothing: %v, %v", got, ok)
	}
}

func TestEach(t *testing.T) {
	l := func(l ...string) []string { return l }
	for _, c := range []struct {
		s     sets.Set
		names []string
		want  bool
	}{
		{union("int"), l("int"), true}, {union("~int"), l("int"), true}, {union("int"), l("string", "int"), true}, {union("int"), l("string"), false}, {union("int"), nil, false}, {union("int"), l("~int"), false}, {union("int"), l("int", "int"), true},
		{union("~int", "string"), l("string", "int"), true}, {union("~int", "string"), l("int"), false}, {union("~int", "string"), l("string"), false}, {union("int", "int"), l("int"), true}, {union("int", "~int", "bool"), l("bool", "int"), true}, {union("int", "bool", "string"), l("int", "bool"), false},
		{all, l("int", "string", "bool"), false}, {comparable, l("int", "string", "bool"), false}, {nothing, l("int"), false}, {nothing, nil, false}, {all, l(""), false},
	} {
		if got := sets.Each(c.s, c.names); got != c.want {
			t.Errorf("P11.1: Each(%v, %q) = %v", c.s, c.names, got)
		}
	}
}

// definitions are those of all tests.
func definitions() []kinds.Def {
	p := param("P")
	return []kinds.Def{
		{Name: "N", Type: whole}, {Name: "T", Type: text}, {Name: "Z", Type: truth}, {Name: "NN", Type: named("N")}, {Name: "I", Type: slice(whole)}, {Name: "S", Type: of(8, "a", whole)}, {Name: "R", Type: named("R")},
		{Name: "K", Params: []string{"P"}, Type: whole}, {Name: "L", Params: []string{"P"}, Type: slice(p)}, {Name: "H", Params: []string{"P"}, Type: p},
		{Name: "A", Type: whole, Alias: true}, {Name: "AT", Type: named("T"), Alias: true}, {Name: "AI", Type: slice(whole), Alias: true}, {Name: "AH", Params: []string{"P"}, Type: p, Alias: true}, {Name: "AR", Type: named("AR"), Alias: true},
		{Name: "N", Type: text}, {Name: "A", Type: text, Alias: true},
	}
}

// scope are the parameters that all tests know.
func scope() []sets.Bound {
	return []sets.Bound{
		{"P", all}, {"C", comparable}, {"I", union("int")}, {"TI", union("~int")}, {"IS", union("int", "string")}, {"TIS", union("~int", "string")}, {"B", union("~int", "~string", "~bool")}, {"II", union("int", "~int")},
		{"W", nothing}, {"WA", sets.Set{All: true, Comparable: true}}, {"WN", union("N")}, {"P", comparable}, {"I", all}, {"W", all},
	}
}

// let is what each of some types is let in by: everything (a), what is comparable (c), unions (by their own names in names).
type let struct {
	t  kinds.Type
	by string
}

func lets() []let {
	const i, ti, s, ts, b, is = " int", " ~int", " string", " ~string", " bool", " int|~string"
	return []let{
		{whole, "any comparable" + i + ti + is},
		{text, "any comparable" + s + ts + is},
		{truth, "any comparable" + b},
		{named("N"), "any comparable" + ti}, {named("NN"), "any comparable" + ti}, {named("K", slice(text)), "any comparable" + ti}, {named("H", named("H", whole)), "any comparable" + ti},
		{named("T"), "any comparable" + ts + is}, {named("Z"), "any comparable"}, {named("AT"), "any comparable" + ts + is},
		{named("A"), "any comparable" + i + ti + is}, {named("AH", named("A")), "any comparable" + i + ti + is}, {named("AH", named("NN")), "any comparable" + ti},
		{slice(whole), "any"}, {named("I"), "any"}, {named("AI"), "any"}, {named("L", whole), "any"}, {named("S"), "any"}, {of(8, "a", whole), "any"}, {of(6, "", whole, whole), "any"}, {named("H", slice(whole)), "any"},
		{of(7, ""), "any"}, {of(2, "int"), "any"}, {of(9, "int"), "any"}, {named("X"), "any"}, {named("R"), "any"}, {named("N", whole), "any"}, {named("H", param("I")), "any"}, {slice(param("Z")), "any"},
		{kinds.Type{}, ""}, {of(0, "int"), ""}, {named("A", whole), ""}, {named("AR"), ""}, {named("AH"), ""}, {slice(named("AR")), ""}, {named("K", named("AH")), ""},
		{param("P"), "any"}, {param("C"), "any comparable"}, {param("I"), "any comparable" + i + ti + is}, {param("TI"), "any comparable" + ti}, {param("II"), "any comparable" + ti},
		{param("IS"), "any comparable" + is}, {param("TIS"), "any comparable"}, {param("B"), "any comparable"}, {named("AH", param("I")), "any comparable" + i + ti + is}, {named("AH", param("P")), "any"},
		{param("Z"), ""}, {param(""), ""}, {param("int"), ""}, {param("W"), ""}, {param("WA"), ""}, {param("WN"), ""}, {named("AH", param("Z")), ""},
	}
}

func TestLets(t *testing.T) {
	by := map[string]sets.Set{"any": all, "comparable": comparable, "int": union("int"), "~int": union("~int"), "string": union("string"), "~string": union("~string"), "bool": union("bool"), "int|~string": union("int", "~string")}
	for _, x := range lets() {
		for name, s := range by {
			want := slices.Contains(strings.Fields(x.by), name)
			if got := sets.Lets(definitions(), scope(), s, x.t); got != want {
				t.Errorf("P11.1: %s lets %v: %v", name, x.t, got)
			}
		}
		for _, s := range wrongs() {
			if sets.Lets(definitions(), scope(), s, x.t) {
				t.Errorf("P11.1: %v, which is not right, lets %v", s, x.t)
			}
		}
	}
}

// TestLetsParams holds each right constraint of a parameter against each other one, term by term.
func TestLetsParams(t *testing.T) {
	for _, own := range rights() {
		for _, s := range rights() {
			want := s.All || s.Comparable && !own.All
			if len(s.Terms) > 0 {
				want = len(own.Terms) > 0
				for _, x := range own.Terms {
					with, without := slices.Contains(s.Terms, sets.Term{Tilde: true, Name: x.Name}), slices.Contains(s.Terms, sets.Term{Name: x.Name})
					want = want && (with || without && !x.Tilde)
				}
			}
			if got := sets.Lets(nil, []sets.Bound{{"P", own}}, s, param("P")); got != want {
				t.Errorf("P11.1: %v lets a parameter of %v: %v", s, own, got)
			}
		}
		for _, s := range wrongs() {
			if sets.Lets(nil, []sets.Bound{{"P", own}}, s, param("P")) || sets.Lets(nil, []sets.Bound{{"P", s}, {"P", own}}, own, param("P")) {
				t.Errorf("P11.1: %v, which is not right, lets a parameter of %v, or is let in", s, own)
			}
		}
	}
}

// TestMoreLetsMore: what a union lets in, one with more terms lets in, too, and everything does.
func TestMoreLetsMore(t *testing.T) {
	for _, x := range lets() {
		for _, s := range rights() {
			if !sets.Lets(definitions(), scope(), s, x.t) {
				continue
			}
			if !sets.Lets(definitions(), scope(), all, x.t) {
				t.Errorf("P11.2: %v lets %v, everything does not", s, x.t)
			}
			for _, more := range rights() {
				if len(s.Terms) == 0 || len(more.Terms) == 0 {
					continue
				}
				for _, wider := range []sets.Set{{Terms: slices.Concat(s.Terms, more.Terms)}, {Terms: slices.Concat(more.Terms, s.Terms)}} {
					if !sets.Lets(definitions(), scope(), wider, x.t) {
						t.Errorf("P11.2: %v lets %v, %v does not", s, x.t, wider)
					}
				}
			}
		}
	}
}

// TestLetsInFull: a name for a type is let in by what lets in the type.
func TestLetsInFull(t *testing.T) {
	for _, x := range lets() {
		for _, s := range slices.Concat(rights(), wrongs()) {
			full := kinds.Full(definitions(), x.t)
			if sets.Lets(definitions(), scope(), s, x.t) != sets.Lets(definitions(), scope(), s, full) {
				t.Errorf("P11.1: %v lets %v, or what it is in full", s, x.t)
			}
		}
	}
}

// TestGreat: many terms, many names, and types that are too great to be made are told in time.
func TestGreat(t *testing.T) {
	const many = 200_000
	own := union(slices.Repeat([]string{"int", "~int"}, many)...)
	s := union(append(slices.Repeat([]string{"bool", "~string"}, many), "~int")...)
	if !sets.Lets(nil, []sets.Bound{{"P", own}}, s, param("P")) || sets.Lets(nil, []sets.Bound{{"P", s}}, own, param("P")) {
		t.Error("P11.1: Lets of many terms")
	}
	var names []string
	for i := range many {
		names = append(names, "n"+strconv.Itoa(i))
	}
	if sets.Each(own, names) || !sets.Each(own, append(names, "int")) {
		t.Error("P11.1: Each of many names")
	}
	l := []kinds.Def{{Name: "G", Params: []string{"P"}, Type: of(6, "", slices.Repeat([]kinds.Type{param("P")}, many)...)}}
	if sets.Lets(l, nil, s, named("G", of(6, "", slices.Repeat([]kinds.Type{whole}, 990)...))) || sets.Lets(l, nil, comparable, named("G", whole)) || !sets.Lets(l, nil, all, named("G", whole)) {
		t.Error("P11.1: Lets of a great type")
	}
}

// TestNothingIsKept: what is handed in stays, and what is told is in memory of its own.
func TestNothingIsKept(t *testing.T) {
	s := union("~int", "string", "bool")
	s.Terms = s.Terms[:2]
	given := []sets.Bound{{"C", s}, {"P", all}}
	n := inter(term("~", "int"), term("", "string"))
	for name, call := range map[string]func() sets.Set{
		"Of":       func() sets.Set { s, _ := sets.Of(tname("C"), given); return s },
		"Of terms": func() sets.Set { s, _ := sets.Of(n, given); return s },
		"Find":     func() sets.Set { s, _ := sets.Find(given, "C"); return s },
	} {
		got := call()
		l := got.Terms[:cap(got.Terms)]
		for i := range l {
			l[i].Name = "spoilt"
		}
		if again := call(); !equal(again, union("~int", "string")) || !equal(given[0].Set, union("~int", "string")) || s.Terms[:3][2].Name != "bool" {
			t.Errorf("R4: %s tells what is kept: %v", name, again)
		}
	}
}
