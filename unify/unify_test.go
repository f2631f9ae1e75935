package unify_test

import (
	"slices"
	"strconv"
	"testing"

	"demotic/kinds"
	"demotic/unify"
)

func of(kind int, name string, l ...kinds.Type) kinds.Type {
	return kinds.Type{Kind: kind, Name: name, Args: l}
}

func basic(s string) kinds.Type                      { return of(1, s) }
func untyped(s string) kinds.Type                    { return of(2, s) }
func named(s string, l ...kinds.Type) kinds.Type     { return of(3, s, l...) }
func param(s string) kinds.Type                      { return of(4, s) }
func slice(t kinds.Type) kinds.Type                  { return of(5, "", t) }
func fn(l ...kinds.Type) kinds.Type                  { return of(6, "", l...) }
func structure(s string, l ...kinds.Type) kinds.Type { return of(8, s, l...) }
func row(l ...kinds.Type) []kinds.Type               { return l }

func def(s string, t kinds.Type, l ...string) kinds.Def {
	return kinds.Def{Name: s, Params: l, Type: t}
}

func alias(s string, t kinds.Type, l ...string) kinds.Def {
	return kinds.Def{Name: s, Params: l, Type: t, Alias: true}
}

var (
	no      = kinds.Type{}
	nothing = of(7, "")
	whole   = basic("int")
	text    = basic("string")
	truth   = basic("bool")
	p, q, s = param("P"), param("Q"), param("S")
)

// equal: are two types, however deep they are?
func equal(a, b kinds.Type) bool {
	return a.Kind == b.Kind && a.Name == b.Name && slices.EqualFunc(a.Args, b.Args, equal)
}

func equals(a, b []kinds.Type) bool { return slices.EqualFunc(a, b, equal) }

// deep is a type within so many slices.
func deep(slices int, t kinds.Type) kinds.Type {
	for range slices {
		t = slice(t)
	}
	return t
}

// wide is a function's type with so many types in it, and it.
func wide(size int, t kinds.Type) kinds.Type {
	return fn(slices.Repeat([]kinds.Type{t}, size-1)...)
}

// copied is a type in other memory.
func copied(t kinds.Type) kinds.Type {
	t.Args = slices.Clone(t.Args)
	for i := range t.Args {
		t.Args[i] = copied(t.Args[i])
	}
	return t
}

// definitions are those of most tests.
func definitions() []kinds.Def {
	return []kinds.Def{
		def("N", whole), def("T", text), def("R", slice(text)), def("RR", named("R")), def("I", slice(whole)), def("F", fn(whole, slice(whole))), def("G", fn(nothing)), def("S", structure("a", whole)), def("U", slice(named("R"))),
		def("L", slice(p), "P"), def("M", fn(p, q), "P", "Q"), def("H", p, "P"), def("O", named("O")), def("RA", slice(named("A"))), def("RL", named("AL", named("A"))),
		alias("A", whole), alias("AR", named("R")), alias("AL", slice(p), "P"), alias("AP", p, "P"), alias("AK", whole, "P"), alias("AN", named("L", p), "P"), alias("AO", named("AO")), alias("AM", fn(p, p, q), "P", "Q"), alias("AU", untyped("int")),
		def("R", slice(truth)), alias("N", text),
	}
}

func TestFits(t *testing.T) {
	pq := []string{"P", "Q"}
	for _, c := range []struct {
		pattern, t kinds.Type
		by, want   []kinds.Type // of P and Q; of what does not fit nothing is wanted
	}{
		// a parameter for which nothing stands
		{p, whole, row(no, no), row(whole, no)}, {q, whole, row(no, no), row(no, whole)}, {p, slice(text), row(no, text), row(slice(text), text)}, {p, p, row(no, no), row(p, no)}, {p, q, row(no, no), row(q, no)}, {p, slice(p), row(no, no), row(slice(p), no)},
		{p, named("R"), row(no, no), row(named("R"), no)}, {p, named("AR"), row(no, no), row(named("R"), no)}, {p, named("AL", named("A")), row(no, no), row(slice(whole), no)}, {p, untyped("int"), row(no, no), row(untyped("int"), no)}, {p, nothing, row(no, no), row(nothing, no)},
		{p, structure("a", named("A")), row(no, no), row(structure("a", whole), no)}, {p, named("X"), row(no, no), row(named("X"), no)}, {p, s, row(no, no), row(s, no)}, {of(4, "P", text), whole, row(no, no), row(whole, no)},
		// one for which something stands
		{p, whole, row(whole, no), row(whole, no)}, {p, text, row(whole, no), nil}, {p, whole, row(no, whole), row(whole, whole)}, {p, named("A"), row(whole, no), row(whole, no)}, {p, whole, row(named("A"), no), row(whole, no)}, {p, named("N"), row(whole, no), nil}, {p, whole, row(named("N"), no), nil},
		{p, slice(text), row(named("R"), no), nil}, {p, named("R"), row(slice(text), no), nil}, {p, named("AR"), row(named("R"), no), row(named("R"), no)}, {p, named("RR"), row(named("R"), no), nil}, {p, untyped("int"), row(whole, no), nil}, {p, p, row(p, no), row(p, no)}, {p, q, row(p, no), nil},
		{p, slice(named("A")), row(named("AL", whole), named("AR")), row(slice(whole), named("R"))},
		// slices and functions
		{slice(p), slice(whole), row(no, no), row(whole, no)}, {slice(p), slice(named("A")), row(no, no), row(whole, no)}, {slice(p), whole, row(no, no), nil}, {slice(p), fn(whole), row(no, no), nil}, {slice(p), p, row(no, no), nil}, {slice(slice(p)), slice(whole), row(no, no), nil}, {slice(slice(p)), deep(3, whole), row(no, no), row(slice(whole), no)},
		{slice(whole), slice(whole), row(no, no), row(no, no)}, {slice(whole), slice(text), row(no, no), nil}, {slice(p), slice(text), row(text, no), row(text, no)}, {slice(p), slice(text), row(whole, no), nil}, {of(5, "", p, q), slice(whole), row(no, no), nil}, {of(5, ""), slice(whole), row(no, no), nil}, {of(5, ""), of(5, ""), row(no, no), row(no, no)},
		{fn(p, q), fn(whole, text), row(no, no), row(whole, text)}, {fn(p, slice(q)), fn(whole, slice(text)), row(no, no), row(whole, text)}, {fn(p, p), fn(whole, text), row(no, no), nil}, {fn(p, p), fn(text, text), row(no, no), row(text, no)}, {fn(p, q), fn(whole, whole, text), row(no, no), nil}, {fn(p, q), fn(whole), row(no, no), nil}, {fn(p, q), fn(), row(no, no), nil}, {fn(), fn(), row(no, no), row(no, no)},
		{fn(p, nothing), fn(whole, nothing), row(no, no), row(whole, no)}, {fn(p, nothing), fn(whole, text), row(no, no), nil}, {fn(p, q), fn(whole, nothing), row(no, no), row(whole, nothing)}, {fn(p, q), slice(whole), row(no, no), nil}, {fn(p, fn(q, p)), fn(whole, fn(text, named("A"))), row(no, no), row(whole, text)}, {fn(p), slice(p), row(no, no), nil},
		{of(5, "x", p), slice(whole), row(no, no), nil}, {slice(p), of(5, "x", whole), row(no, no), nil},
		// what stands behind a named one
		{slice(p), named("R"), row(no, no), row(text, no)}, {slice(p), named("RR"), row(no, no), row(text, no)}, {slice(p), named("AR"), row(no, no), row(text, no)}, {slice(p), named("L", truth), row(no, no), row(truth, no)}, {slice(p), named("L", named("A")), row(no, no), row(whole, no)}, {slice(p), named("RA"), row(no, no), row(whole, no)}, {slice(p), named("RL"), row(no, no), row(whole, no)}, {slice(p), named("H", named("R")), row(no, no), row(text, no)},
		{slice(p), named("N"), row(no, no), nil}, {slice(p), named("S"), row(no, no), nil}, {slice(p), named("O"), row(no, no), nil}, {slice(p), named("X"), row(no, no), nil}, {slice(p), named("L"), row(no, no), nil}, {slice(p), named("R", whole), row(no, no), nil}, {slice(p), named("F"), row(no, no), nil}, {slice(text), named("R"), row(no, no), row(no, no)}, {slice(whole), named("R"), row(no, no), nil},
		{fn(p, q), named("F"), row(no, no), row(whole, slice(whole))}, {fn(p, slice(p)), named("F"), row(no, no), row(whole, no)}, {fn(p, slice(p)), named("F"), row(text, no), nil}, {fn(q, p), named("M", text, named("N")), row(no, no), row(named("N"), text)}, {fn(p), named("G"), row(no, no), row(nothing, no)}, {fn(p, q), named("G"), row(no, no), nil}, {fn(p, q), named("R"), row(no, no), nil}, {fn(p, q), named("M", text), row(no, no), nil},
		{slice(slice(p)), slice(named("R")), row(no, no), row(text, no)}, {slice(slice(p)), named("U"), row(no, no), row(text, no)}, {fn(slice(p), slice(q)), fn(named("I"), named("R")), row(no, no), row(whole, text)}, {structure("a", slice(p)), structure("a", named("R")), row(no, no), nil},
		// named ones
		{named("L", p), named("L", whole), row(no, no), row(whole, no)}, {named("L", slice(p)), named("L", slice(text)), row(no, no), row(text, no)}, {named("L", p), named("AN", text), row(no, no), row(text, no)}, {named("AN", p), named("L", text), row(no, no), row(text, no)}, {named("L", p), named("R"), row(no, no), nil}, {named("L", p), slice(whole), row(no, no), nil}, {named("L", p), named("M", whole, text), row(no, no), nil}, {named("L", p), named("L"), row(no, no), nil},
		{named("M", p, q), named("M", whole, text), row(no, no), row(whole, text)}, {named("M", p, p), named("M", whole, text), row(no, no), nil}, {named("M", p, p), named("M", whole, named("A")), row(no, no), row(whole, no)}, {named("M", p, q), named("M", whole), row(no, no), nil}, {named("X", p), named("X", whole), row(no, no), row(whole, no)}, {named("L", p), named("L", whole), row(text, no), nil}, {named("L", slice(p)), named("L", named("R")), row(no, no), row(text, no)},
		{named("R"), named("R"), row(no, no), row(no, no)}, {named("R"), named("RR"), row(no, no), nil}, {named("R"), slice(text), row(no, no), nil}, {named("RR"), named("R"), row(no, no), nil}, {named("R"), named("AR"), row(no, no), row(no, no)}, {named("P"), whole, row(no, no), nil}, {named("P"), named("P"), row(no, no), row(no, no)},
		// aliases, in full first
		{named("AP", p), text, row(no, no), row(text, no)}, {named("AL", p), slice(text), row(no, no), row(text, no)}, {named("AL", p), named("R"), row(no, no), row(text, no)}, {named("AK", p), whole, row(no, no), row(no, no)}, {named("AM", p, q), fn(text, text, whole), row(no, no), row(text, whole)}, {named("AM", p, q), fn(text, whole, whole), row(no, no), nil}, {slice(named("AP", p)), slice(text), row(no, no), row(text, no)},
		{named("AL"), slice(text), row(no, no), nil}, {p, named("AL"), row(no, no), nil}, {p, slice(named("AO")), row(no, no), nil}, {named("AO"), named("AO"), row(no, no), nil}, {p, named("AO"), row(no, no), nil}, {slice(named("AO")), slice(whole), row(no, no), nil}, {p, whole, row(named("AL"), no), row(whole, no)}, {p, whole, row(no, named("AO")), row(whole, no)},
		// all else
		{whole, whole, row(no, no), row(no, no)}, {whole, named("A"), row(no, no), row(no, no)}, {whole, text, row(no, no), nil}, {whole, named("N"), row(no, no), nil}, {whole, untyped("int"), row(no, no), nil}, {untyped("int"), untyped("int"), row(no, no), row(no, no)}, {untyped("int"), whole, row(no, no), nil}, {named("AU"), untyped("int"), row(no, no), row(no, no)}, {nothing, nothing, row(no, no), row(no, no)}, {nothing, whole, row(no, no), nil},
		{s, s, row(no, no), row(no, no)}, {s, whole, row(no, no), nil}, {s, p, row(no, no), nil}, {structure("a", whole), structure("a", named("A")), row(no, no), row(no, no)}, {structure("a", p), structure("a", whole), row(no, no), nil}, {structure("a", p), structure("a", p), row(no, no), row(no, no)}, {structure("a", whole), structure("b", whole), row(no, no), nil}, {structure("a", whole), named("S"), row(no, no), nil},
		{of(9, "", p), of(9, "", p), row(no, no), row(no, no)}, {of(9, "", p), of(9, "", whole), row(no, no), nil}, {of(1, "int", p), of(1, "int", whole), row(no, no), nil}, {of(-1, ""), of(-1, ""), row(no, no), row(no, no)},
		// no type
		{no, no, row(no, no), nil}, {p, no, row(no, no), nil}, {no, whole, row(no, no), nil}, {of(0, "x"), of(0, "x"), row(no, no), nil}, {slice(no), slice(no), row(no, no), nil}, {slice(p), slice(no), row(no, no), nil}, {named("L", no), named("L", no), row(no, no), nil}, {fn(p, no), fn(whole, no), row(no, no), nil}, {p, slice(no), row(no, no), row(slice(no), no)},
		{p, whole, row(of(0, "x"), of(0, "y", whole)), row(whole, no)},
		// as many types as names
		{p, whole, nil, nil}, {p, whole, row(no), nil}, {p, whole, row(no, no, no), nil}, {whole, whole, row(no), nil},
	} {
		got, ok := unify.Fits(definitions(), pq, c.pattern, c.t, c.by)
		if !equals(got, c.want) || ok != (c.want != nil) {
			t.Errorf("P12.1: Fits(%v, %v, by %v) = %v, %v", c.pattern, c.t, c.by, got, ok)
		}
	}
}

func TestNamesOfTheRow(t *testing.T) {
	for _, c := range []struct {
		row  []string
		want bool
	}{
		{[]string{"P"}, true}, {[]string{"P", "Q", "S"}, true}, {[]string{"", "P"}, true}, {[]string{"int", "P"}, true},
		{[]string{"P", "P"}, false}, {[]string{"P", "Q", "P"}, false}, {[]string{"Q", "P", "S", "Q"}, false}, {[]string{"", "P", ""}, false},
	} {
		by := make([]kinds.Type, len(c.row))
		got, ok := unify.Fits(nil, c.row, p, whole, by)
		if want := by; ok != c.want || !ok && got != nil {
			t.Errorf("P12.1: Fits for %q: %v, %v", c.row, got, ok)
		} else if ok {
			want[slices.Index(c.row, "P")] = whole
			if !equals(got, want) {
				t.Errorf("P12.1: Fits for %q: %v", c.row, got)
			}
		}
		var patterns []kinds.Type
		for _, name := range c.row {
			patterns = append(patterns, param(name))
		}
		types := slices.Repeat(row(text), len(c.row))
		if got, ok := unify.Find(nil, c.row, patterns, types); ok != c.want || ok && !equals(got, types) || !ok && got != nil {
			t.Errorf("P12.1: Find for %q: %v, %v", c.row, got, ok)
		}
	}
	if got, ok := unify.Fits(nil, nil, whole, whole, nil); !ok || len(got) != 0 {
		t.Errorf("P12.1: Fits without a row: %v, %v", got, ok)
	}
	if got, ok := unify.Fits(nil, nil, p, whole, nil); ok || got != nil {
		t.Errorf("P12.1: a parameter that is not in the row: %v, %v", got, ok)
	}
	if got, ok := unify.Find(nil, nil, nil, nil); !ok || len(got) != 0 {
		t.Errorf("P12.1: Find without a row: %v, %v", got, ok)
	}
}

func TestFind(t *testing.T) {
	loose, loosely := untyped("int"), untyped("string")
	for _, c := range []struct {
		row             []string
		patterns, types []kinds.Type
		want            []kinds.Type // nothing, if they are not found
	}{
		// one by one
		{[]string{"P", "Q"}, row(fn(p, q)), row(fn(whole, slice(whole))), row(whole, slice(whole))}, // the chapter's examples
		{[]string{"P"}, row(slice(p)), row(named("R")), row(text)},
		{[]string{"P"}, row(p, p), row(whole, whole), row(whole)}, {[]string{"P"}, row(p, p), row(whole, text), nil}, {[]string{"P"}, row(p, slice(p)), row(whole, slice(whole)), row(whole)}, {[]string{"P"}, row(slice(p), p), row(named("R"), text), row(text)}, {[]string{"P"}, row(slice(p), p), row(named("R"), whole), nil},
		{[]string{"P"}, row(p, p), row(named("I"), slice(whole)), nil}, {[]string{"P"}, row(p, p), row(slice(whole), named("I")), nil}, {[]string{"P"}, row(p, p), row(named("A"), whole), row(whole)}, {[]string{"P"}, row(p), row(named("AR")), row(named("R"))},
		{[]string{"Q", "P"}, row(p, q), row(whole, text), row(text, whole)}, {[]string{"P", "Q"}, row(p, q, fn(p, q)), row(whole, text, named("M", whole, text)), row(whole, text)}, {[]string{"P", "Q"}, row(p, q, fn(p, q)), row(whole, text, named("M", text, text)), nil},
		{[]string{"P"}, row(p, whole), row(text, whole), row(text)}, {[]string{"P"}, row(p, whole), row(text, truth), nil}, {[]string{"P"}, row(p, whole), row(text, named("N")), nil}, {[]string{"P"}, row(p, s), row(text, s), row(text)},
		{[]string{"P"}, row(p), row(nothing), row(nothing)}, {[]string{"P"}, row(p), row(no), nil}, {[]string{"P"}, row(no), row(whole), nil},
		// each must have one
		{[]string{"P", "Q"}, row(p), row(whole), nil}, {[]string{"P", "Q"}, row(q), row(whole), nil}, {[]string{"P"}, nil, nil, nil}, {[]string{"P"}, row(whole), row(whole), nil}, {[]string{"P"}, row(named("AK", p)), row(whole), nil}, {nil, row(whole), row(whole), []kinds.Type{}}, {nil, row(whole), row(text), nil}, {nil, row(p), row(loose), []kinds.Type{}},
		// as many patterns as types
		{[]string{"P"}, row(p), row(whole, whole), nil}, {[]string{"P"}, row(p, p), row(whole), nil}, {[]string{"P"}, row(p), nil, nil}, {[]string{"P"}, nil, row(whole), nil}, {nil, nil, row(loose), nil}, {nil, row(whole), nil, nil}, {[]string{"P"}, row(p), row(whole, loose), nil},
		// untyped ones come last
		{[]string{"P"}, row(p), row(loose), row(whole)}, {[]string{"P"}, row(p), row(loosely), row(text)}, {[]string{"P"}, row(p), row(untyped("bool")), row(truth)}, {[]string{"P"}, row(p, p), row(loose, text), row(text)}, {[]string{"P"}, row(p, p), row(text, loose), row(text)}, {[]string{"P"}, row(p, slice(p)), row(loose, named("R")), row(text)},
		{[]string{"P"}, row(p, p), row(loose, loose), row(whole)}, {[]string{"P"}, row(p, p), row(loose, loosely), nil}, {[]string{"P"}, row(p, p, p), row(loose, loose, loosely), nil}, {[]string{"P"}, row(p, p, p), row(loose, loosely, loose), nil}, {[]string{"P"}, row(p, p, p), row(loose, loosely, truth), row(truth)}, {[]string{"P"}, row(p, p, p), row(truth, loose, loosely), row(truth)},
		{[]string{"P", "Q"}, row(p, q), row(loose, loosely), row(whole, text)}, {[]string{"P", "Q"}, row(p, q, p), row(loose, loosely, loosely), nil}, {[]string{"P", "Q"}, row(q, p, q), row(loose, slice(text), loose), row(slice(text), whole)}, {[]string{"P", "Q"}, row(p, p, q), row(loose, loosely, text), nil},
		{[]string{"P"}, row(slice(p)), row(loose), nil}, {[]string{"P"}, row(whole), row(loose), nil}, {[]string{"P"}, row(p, slice(p)), row(loose, loosely), row(whole)}, {[]string{"P"}, row(p, whole), row(truth, loosely), row(truth)}, {[]string{"P"}, row(p, s), row(truth, loosely), row(truth)}, {[]string{"P"}, row(p, q), row(loose, loosely), row(whole)}, {[]string{"P"}, row(p, no), row(loose, loosely), row(whole)},
		{[]string{"P"}, row(p), row(of(2, "int", text)), row(whole)}, {[]string{"P"}, row(p, p), row(loose, of(2, "int", text)), row(whole)},
		// an alias for a parameter is none where an untyped one stands
		{[]string{"P"}, row(named("AP", p)), row(loose), nil}, {[]string{"P"}, row(named("AP", p)), row(whole), row(whole)}, {[]string{"P"}, row(named("AP", p), p), row(loosely, loose), row(whole)}, {[]string{"P"}, row(named("AP", p), p), row(text, loose), row(text)}, {[]string{"P"}, row(named("P")), row(loose), nil}, {[]string{"P"}, row(of(1, "P")), row(loose), nil},
		{[]string{"P"}, row(p, p), row(named("AU"), loosely), row(loose)}, // a name is not untyped, whatever it is in full
	} {
		got, ok := unify.Find(definitions(), c.row, c.patterns, c.types)
		if !equals(got, c.want) || ok != (c.want != nil) {
			t.Errorf("P12.1: Find(%q, %v, %v) = %v, %v", c.row, c.patterns, c.types, got, ok)
		}
	}
}

// TestDeepAsHandedIn: what is handed in may be 100 within one another, not more.
func TestDeepAsHandedIn(t *testing.T) {
	l := []kinds.Def{alias("K", whole, "P"), def("D", deep(60, whole)), def("W", whole, "P")}
	for _, n := range []int{1, 50, 98, 99, 100, 101, 500, 9999} { // so many within one another
		of := deep(n-1, whole)
		into := deep(n-1, p)
		for _, c := range []struct {
			pattern, t kinds.Type
			want       kinds.Type
			most       int
		}{
			{p, of, of, 100}, {into, of, whole, 100}, {named("K", into), whole, no, 99}, {whole, named("K", of), no, 99}, {p, named("W", of), named("W", of), 99}, {p, fn(whole, of, whole), fn(whole, of, whole), 99}, {of, of, no, 100}, {structure("a", of), structure("a", of), no, 99},
		} {
			got, ok := unify.Fits(l, []string{"P"}, c.pattern, c.t, row(no))
			if ok != (n <= c.most) || ok && !equals(got, row(c.want)) || !ok && got != nil {
				t.Errorf("P12.1: Fits, of %d within one another: %v", n, ok)
			}
			patterns, types := row(c.pattern, p), row(c.t, untyped("bool"))
			got, ok = unify.Find(l, []string{"P"}, patterns, types)
			if ok != (n <= c.most) || !ok && got != nil {
				t.Errorf("P12.1: Find, of %d within one another: %v", n, ok)
			}
		}
	}
}

// TestDeepInFull: in full it may come to 100 parts within one another; what stands for a parameter may be deeper.
func TestDeepInFull(t *testing.T) {
	l := []kinds.Def{alias("A", deep(60, p), "P"), def("D", deep(60, whole)), def("E", slice(named("E"))), alias("X", named("Y", named("Y", p)), "P"), def("B", fn(deep(60, p), named("E")), "P")}
	for n := range 60 {
		pattern := deep(n, named("A", p))
		of := deep(n, named("A", slice(whole)))
		got, ok := unify.Fits(l, []string{"P"}, pattern, of, row(no))
		if ok != (n+61 <= 100) || ok && !equals(got, row(slice(whole))) || !ok && got != nil {
			t.Errorf("P12.1: a parameter within %d slices in full: %v", n+60, ok)
		}
		if got, ok := unify.Fits(l, []string{"P"}, p, of, row(no)); !ok || !equals(got, row(deep(60+n, slice(whole)))) {
			t.Errorf("P12.1: what is within %d slices in full: %v", n+61, ok)
		}
		if _, ok := unify.Fits(l, []string{"P"}, p, of, row(of)); ok != (n+62 <= 100) {
			t.Errorf("P12.1: what is within %d slices in full stands already: %v", n+61, ok)
		}
		if got, ok := unify.Fits(l, []string{"P"}, pattern, named("E"), row(no)); ok != (n+61 <= 100) || ok && !equals(got, row(named("E"))) {
			t.Errorf("P12.1: what leads to itself fits %d slices: %v", n+60, ok)
		}
	}
	if got, ok := unify.Fits(l, []string{"P"}, deep(99, p), named("E"), row(no)); !ok || !equals(got, row(named("E"))) {
		t.Errorf("P12.1: what leads to itself fits: %v, %v", got, ok)
	}
	if got, ok := unify.Fits(l, []string{"P"}, fn(p, slice(p)), named("B", slice(whole)), row(no)); ok || got != nil {
		t.Errorf("P12.1: another one behind: %v", got)
	}
	if got, ok := unify.Fits(l, []string{"P", "Q"}, fn(deep(60, p), slice(q)), named("B", slice(whole)), row(no, no)); !ok || !equals(got, row(slice(whole), named("E"))) {
		t.Errorf("P12.1: what stands behind, with what was given: %v", got)
	}
}

// TestTooGreat: what is none in full does not fit, and the answer comes.
func TestTooGreat(t *testing.T) {
	l := []kinds.Def{alias("D", fn(p, p), "P"), alias("E", named("E", fn(p, p)), "P"), def("F", named("F", fn(p, p)), "P"), def("G", fn(named("D", p), wide(19997, whole)), "P")}
	double := p
	for range 40 {
		double = named("D", double)
	}
	for _, c := range []struct{ pattern, t kinds.Type }{
		{p, wide(20000, whole)}, {wide(20000, whole), wide(20000, whole)}, {p, named("E", whole)}, {named("E", p), whole}, {double, double}, {p, double}, {slice(p), named("F", whole)}, {fn(p, q), named("F", whole)}, {fn(wide(20000, whole), q), fn(wide(20000, whole), whole)},
	} {
		if got, ok := unify.Fits(l, []string{"P", "Q"}, c.pattern, c.t, row(no, no)); ok || got != nil {
			t.Errorf("P12.1: %.50v fits %.50v", c.pattern, c.t)
		}
	}
	if got, ok := unify.Fits(l, []string{"P"}, p, wide(19999, whole), row(no)); !ok || !equals(got, row(wide(19999, whole))) {
		t.Error("P12.1: what is as great as it may be does not fit")
	}
	// of what stands behind each part is taken in full for itself
	if got, ok := unify.Fits(l, []string{"P", "Q"}, fn(p, q), named("G", wide(900, whole)), row(no, no)); !ok || !equals(got, row(fn(wide(900, whole), wide(900, whole)), wide(19997, whole))) {
		t.Error("P12.1: great ones behind do not fit")
	}
}

// TestManyNames: a long row of parameters, each found.
func TestManyNames(t *testing.T) {
	const many = 5000
	var names []string
	var patterns, types, want []kinds.Type
	for i := range many {
		name := "P" + strconv.Itoa(i)
		names = append(names, name)
		want = append(want, basic(strconv.Itoa(i)))
		patterns = append(patterns, slice(param(name)), param(name))
		types = append(types, slice(want[i]), untyped("int"))
		if i%3 == 0 {
			types[2*i], want[i] = untyped("int"), whole
		}
	}
	if got, ok := unify.Find(nil, names, patterns, types); !ok || !equals(got, want) {
		t.Errorf("P12.1: many names: %v", ok)
	}
	var all []kinds.Type
	for _, name := range names {
		all = append(all, param(name))
	}
	if got, ok := unify.Fits(nil, names, fn(all...), fn(want...), make([]kinds.Type, many)); !ok || !equals(got, want) {
		t.Errorf("P12.1: many names in one: %v", ok)
	}
}

// TestNothingKept: what is handed in stays as it is, the spare room, too, and shares nothing with what is handed out.
func TestNothingKept(t *testing.T) {
	spare := func() []kinds.Type { return append(make([]kinds.Type, 0, 8), no, slice(named("A"))) }
	of := fn(slice(whole), named("AL", text), fn(whole, whole))
	pattern := fn(p, slice(q), s)
	l, names, by := definitions(), []string{"P", "Q", "S"}, append(spare()[:1:8], no, slice(fn(slice(whole))))
	by[2] = fn(named("A"), whole)
	first := func() []kinds.Type {
		t.Helper()
		got, ok := unify.Fits(l, names, pattern, of, by)
		if !ok || !equals(got, row(slice(whole), text, fn(whole, whole))) {
			t.Fatalf("P12.1: Fits: %v", got)
		}
		return got
	}
	got := first()
	if !equals(by[:8], append(row(no, no, fn(named("A"), whole)), make([]kinds.Type, 5)...)) {
		t.Errorf("R4: what stood was changed: %v", by[:8])
	}
	spoil(got)
	spoil(append(got, of)[:len(got)])
	first()
	patterns, types := row(pattern, s, q), row(of, fn(whole, whole), untyped("int"))
	before := copied(fn(append(patterns, types...)...))
	got, ok := unify.Find(l, names, patterns, types)
	if !ok || !equals(got, row(slice(whole), text, fn(whole, whole))) {
		t.Fatalf("P12.1: Find: %v", got)
	}
	spoil(got)
	if !equal(before, fn(append(patterns, types...)...)) {
		t.Error("R4: patterns or types were changed")
	}
	for i, d := range definitions() {
		if !equal(d.Type, l[i].Type) || !slices.Equal(d.Params, l[i].Params) || d.Name != l[i].Name || d.Alias != l[i].Alias {
			t.Errorf("R4: %s was changed", d.Name)
		}
	}
	twice, _ := unify.Find(l, []string{"P", "Q"}, row(p, q), row(of, of))
	spoil(twice[:1])
	if !equal(twice[1], fn(slice(whole), slice(text), fn(whole, whole))) {
		t.Error("R4: two of what is handed out share memory")
	}
}

// spoil writes over all memory of types.
func spoil(l []kinds.Type) {
	for i := range l {
		spoil(l[i].Args)
		l[i] = of(99, "spoilt")
	}
}
