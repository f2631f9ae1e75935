package kinds_test

import (
	"slices"
	"strconv"
	"testing"

	"demotic/kinds"
)

func of(kind int, name string, l ...kinds.Type) kinds.Type {
	return kinds.Type{Kind: kind, Name: name, Args: l}
}

func basic(s string) kinds.Type                      { return of(1, s) }
func untyped(s string) kinds.Type                    { return of(2, s) }
func named(s string, l ...kinds.Type) kinds.Type     { return of(3, s, l...) }
func param(s string) kinds.Type                      { return of(4, s) }
func slice(t kinds.Type) kinds.Type                  { return of(5, "", t) }
func fn(l ...kinds.Type) kinds.Type                  { return of(6, "", l...) }
func structure(s string, l ...kinds.Type) kinds.Type { return of(8, s, l...) }
func def(s string, t kinds.Type, l ...string) kinds.Def {
	return kinds.Def{Name: s, Params: l, Type: t}
}

func alias(s string, t kinds.Type, l ...string) kinds.Def {
	return kinds.Def{Name: s, Params: l, Type: t, Alias: true}
}

var (
	no      = kinds.Type{}
	nothing = of(7, "")
	whole   = basic("int")
	text    = basic("string")
	truth   = basic("bool")
	p, q    = param("P"), param("Q")
)

// equal: are two types, however deep they are?
func equal(a, b kinds.Type) bool {
	return a.Kind == b.Kind && a.Name == b.Name && slices.EqualFunc(a.Args, b.Args, equal)
}

// deep is a type within so many slices.
func deep(slices int, t kinds.Type) kinds.Type {
	for range slices {
		t = slice(t)
	}
	return t
}

// wide is a function's type with so many types in it, and it; none is another function.
func wide(size int, t kinds.Type) kinds.Type {
	return fn(slices.Repeat([]kinds.Type{t}, size-1)...)
}

// copied is a type in other memory.
func copied(t kinds.Type) kinds.Type {
	t.Args = slices.Clone(t.Args)
	for i := range t.Args {
		t.Args[i] = copied(t.Args[i])
	}
	return t
}

// different are types no two of which are the same.
func different() []kinds.Type {
	return []kinds.Type{
		no, of(0, "int"), of(0, "", whole), whole, text, truth, basic(""), basic("P"), of(1, "int", whole), untyped("int"), untyped("string"),
		named("int"), named("P"), named("N"), named("n"), named("N "), named("N", whole), named("N", text), named("N", whole, whole), named("N", whole, text), named("N", text, whole), named("N", named("N")),
		p, q, of(4, "P", whole), of(5, ""), slice(no), slice(whole), slice(text), of(5, "x", whole), of(5, "", whole, whole), slice(slice(whole)), slice(p),
		fn(), fn(nothing), fn(whole), fn(whole, nothing), fn(whole, whole), fn(fn(whole)), fn(slice(whole), whole), fn(whole, slice(whole)),
		nothing, of(7, "", whole), structure(""), structure("a", whole), structure("b", whole), structure("a,b", whole, whole), structure("a", text), of(9, ""), of(-1, ""), of(-1, "int"),
		deep(98, whole), deep(99, whole), deep(98, text), deep(99, text),
	}
}

func TestSame(t *testing.T) {
	for i, a := range different() {
		for j, b := range different() {
			if kinds.Same(a, b) != (i == j) {
				t.Errorf("P10.1: Same(%v, %v) = %v", a, b, i != j)
			}
		}
	}
	if !kinds.Same(kinds.Type{Kind: 3, Name: "N", Args: []kinds.Type{}}, named("N")) {
		t.Error("R3: an empty list is another one")
	}
}

// TestSameOfDeepTypes: 100 types within one another may be the same, more not.
func TestSameOfDeepTypes(t *testing.T) {
	for _, n := range []int{0, 50, 98, 99, 100, 101, 200, 9999} {
		a := deep(n, whole)
		if got := kinds.Same(a, a); got != (n+1 <= 100) {
			t.Errorf("P10.1: Same of what is within %d slices: %v", n, got)
		}
		b := fn(whole, a, whole)
		if got := kinds.Same(b, copied(b)); got != (n+2 <= 100) {
			t.Errorf("P10.1: Same of a function with what is within %d slices: %v", n, got)
		}
	}
}

func TestWith(t *testing.T) {
	rows := func(l ...kinds.Type) []kinds.Type { return l }
	names := func(l ...string) []string { return l }
	big := fn(p, slice(q), named("N", p, named("P", q)), structure("P,Q", p, q), nothing)
	for _, c := range []struct {
		t      kinds.Type
		params []string
		by     []kinds.Type
		want   kinds.Type
	}{
		{p, names("P"), rows(whole), whole},
		{p, nil, nil, p},
		{p, names("Q"), rows(whole), p},
		{p, names(""), rows(whole), p},
		{of(4, ""), names(""), rows(whole), whole},
		{p, names("P"), nil, p},
		{p, nil, rows(whole), p},
		{p, names("P", "P"), rows(whole, text), whole},
		{p, names("Q", "P", "P"), rows(truth, whole, text), whole},
		{p, names("Q", "P"), rows(truth), p},
		{fn(p, q), names("P", "Q"), rows(whole), fn(whole, q)},
		{fn(p, q), names("P"), rows(whole, text), fn(whole, q)},
		{fn(p, q), names("P", "Q"), rows(q, p), fn(q, p)},
		{fn(p, q), names("P", "Q"), rows(slice(q), slice(p)), fn(slice(q), slice(p))},
		{p, names("P"), rows(slice(p)), slice(p)},
		{big, names("P", "Q"), rows(whole, fn(p, nothing)), fn(whole, slice(fn(p, nothing)), named("N", whole, named("P", fn(p, nothing))), structure("P,Q", whole, fn(p, nothing)), nothing)},
		{named("P"), names("P"), rows(whole), named("P")},
		{named("P", p), names("P"), rows(whole), named("P", whole)},
		{basic("P"), names("P"), rows(whole), basic("P")},
		{untyped("P"), names("P"), rows(whole), untyped("P")},
		{of(0, "P", p), names("P"), rows(whole), of(0, "P", whole)},
		{of(5, "P", p), names("P"), rows(whole), of(5, "P", whole)},
		{of(4, "P", q), names("Q"), rows(whole), of(4, "P", whole)},
		{of(9, "P", p, q), names("P"), rows(no), of(9, "P", no, q)},
		{no, names("P"), rows(whole), no},
		{deep(9000, p), names("P"), rows(slice(p)), deep(9001, p)},
	} {
		if got := kinds.With(c.t, c.params, c.by); !equal(got, c.want) {
			t.Errorf("P10.1: With(%v, %v, %v) = %v", c.t, c.params, c.by, got)
		}
	}
}

// TestWithManyParams: among many names, too, the first one counts.
func TestWithManyParams(t *testing.T) {
	var names []string
	var by, row, want []kinds.Type
	for i := range 500 {
		names = append(names, "P"+strconv.Itoa(i%300))
		by = append(by, named("N"+strconv.Itoa(i)))
	}
	for i := range 700 {
		row = append(row, param("P"+strconv.Itoa(i%350)))
		want = append(want, param("P"+strconv.Itoa(i%350)))
		if i%350 < 300 {
			want[i] = named("N" + strconv.Itoa(i%350))
		}
	}
	if got := kinds.With(fn(row...), names, by); !equal(got, fn(want...)) {
		t.Errorf("P10.1: With of many parameters: %v", got)
	}
	for i := range want {
		if i%350 >= 200 {
			want[i] = row[i]
		}
	}
	if got := kinds.With(fn(row...), names, by[:200]); !equal(got, fn(want...)) {
		t.Errorf("P10.1: With of more parameters than types: %v", got)
	}
}

func TestWithItselfChangesNothing(t *testing.T) {
	for _, x := range slices.Concat(different(), []kinds.Type{fn(p, slice(q), named("L", p, q), nothing), structure("a,b", p, fn(q, p))}) {
		if x.Kind == 4 && len(x.Args) > 0 {
			continue // a parameter is a name alone: this one is none
		}
		for _, l := range [][]string{nil, {"P"}, {"Q", "P"}, {"P", "P", "R", ""}} {
			var by []kinds.Type
			for _, s := range l {
				by = append(by, param(s))
			}
			if got := kinds.With(x, l, by); !equal(got, x) {
				t.Errorf("P10.3: With(%v, %v) = %v", x, l, got)
			}
		}
	}
}

// definitions are those of most tests.
func definitions() []kinds.Def {
	return []kinds.Def{
		def("N", whole),
		def("T", text),
		def("Z", truth),
		def("NN", named("N")),
		def("I", slice(named("N"))),
		def("J", slice(named("N"))),
		def("F", fn(named("AN"), nothing)),
		def("S", structure("a,b", whole, named("AN"))),
		def("L", slice(p), "P"),
		def("M", fn(p, q), "P", "Q"),
		def("LA", named("A"), "P"),
		def("K", whole, "P"),
		def("KK", named("K", p), "P"),
		def("H", p, "P"),
		def("R", named("R")),
		def("R1", named("R2")),
		def("R2", named("R1")),
		def("RR", slice(named("RR"))),
		def("G", named("G", slice(p)), "P"),
		def("U", untyped("int")),
		alias("A", slice(whole)),
		alias("AN", slice(named("N"))),
		alias("AI", whole),
		alias("AA", named("AI")),
		alias("AL", named("L", p), "P"),
		alias("AH", p, "P"),
		alias("AM", named("M", q, p), "P", "Q"),
		alias("AK", whole, "P"),
		alias("AR", named("AR")),
		alias("AS", slice(named("AS"))),
		alias("AX", named("X")),
		alias("AW", named("AL")),
		alias("AP", p),
		alias("AU", untyped("int")),
		def("B", named("A")),
		def("W", whole, "P", "P"),
		def("N", text),
		alias("N", text),
		def("A", text),
		alias("AL", text, "P"),
	}
}

func TestFull(t *testing.T) {
	for _, c := range []struct{ t, want kinds.Type }{
		{whole, whole},
		{named("N"), named("N")},
		{named("X"), named("X")},
		{named("X", named("A")), named("X", slice(whole))},
		{named("A"), slice(whole)},
		{named("AN"), slice(named("N"))},
		{named("AA"), whole},
		{named("B"), named("B")},
		{named("AL", whole), named("L", whole)},
		{named("AL", named("A")), named("L", slice(whole))},
		{named("AL", named("AL", named("AA"))), named("L", named("L", whole))},
		{named("AL", p), named("L", p)},
		{named("AH", p), p},
		{named("AH", named("AH", q)), q},
		{named("AM", p, q), named("M", q, p)},
		{named("AM", named("AI"), named("AH", named("A"))), named("M", slice(whole), whole)},
		{named("AK", slice(p)), whole},
		{named("AX"), named("X")},
		{named("AP"), p},
		{named("AL", named("AP")), named("L", p)},
		{named("RR"), named("RR")},
		{named("L"), named("L")},
		{named("N", whole), named("N", whole)},
		{named("L", named("A"), named("AI")), named("L", slice(whole), whole)},
		{slice(named("A")), slice(slice(whole))},
		{fn(named("A"), named("AI"), nothing), fn(slice(whole), whole, nothing)},
		{fn(), fn()},
		{structure("a,b", named("A"), named("I")), structure("a,b", slice(whole), named("I"))},
		{basic("A"), basic("A")},
		{untyped("A"), untyped("A")},
		{param("A"), param("A")},
		{nothing, nothing},
		{no, no},
		{of(1, "int", named("A")), of(1, "int", slice(whole))},
		{of(4, "A", named("A")), of(4, "A", slice(whole))},
		{of(9, "A", named("A")), of(9, "A", slice(whole))},
		// none
		{named("A", whole), no},
		{named("AL"), no},
		{named("AL", whole, whole), no},
		{named("AM", whole), no},
		{named("AW"), no},
		{named("AR"), no},
		{named("AS"), no},
		{named("AK", named("A", whole)), no},
		{named("L", named("AL")), no},
		{fn(whole, slice(named("AR"))), no},
		{structure("a", named("AL")), no},
		{of(1, "int", named("AL")), no},
	} {
		if got := kinds.Full(definitions(), c.t); !equal(got, c.want) {
			t.Errorf("P10.1: Full(%v) = %v, want %v", c.t, got, c.want)
		}
	}
	if got := kinds.Full(nil, named("A", whole)); !equal(got, named("A", whole)) {
		t.Errorf("P10.1: Full without definitions: %v", got)
	}
	if l := []kinds.Def{alias("A", whole, "P", "P")}; !equal(kinds.Full(l, named("A", text, truth)), whole) || !equal(kinds.Full(l, named("A", text)), no) {
		t.Error("P10.1: parameters of one name are not counted")
	}
	if l := []kinds.Def{alias("A", p, "P", "P")}; !equal(kinds.Full(l, named("A", text, truth)), text) {
		t.Error("P10.1: the first parameter of a name does not count")
	}
}

func TestBehind(t *testing.T) {
	for _, c := range []struct{ t, want kinds.Type }{
		{whole, whole},
		{p, p},
		{nothing, nothing},
		{no, no},
		{untyped("int"), untyped("int")},
		{slice(named("A")), slice(named("A"))},
		{fn(named("A")), fn(named("A"))},
		{structure("a", named("A")), structure("a", named("A"))},
		{of(9, "x"), of(9, "x")},
		{named("N"), whole},
		{named("NN"), whole},
		{named("T"), text},
		{named("B"), slice(whole)},
		{named("A"), slice(whole)},
		{named("AA"), whole},
		{named("AN"), slice(named("N"))},
		{named("I"), slice(named("N"))},
		{named("F"), fn(named("AN"), nothing)},
		{named("S"), structure("a,b", whole, named("AN"))},
		{named("L", truth), slice(truth)},
		{named("L", named("A")), slice(named("A"))},
		{named("AL", named("A")), slice(named("A"))},
		{named("L", p), slice(p)},
		{named("L", q), slice(q)},
		{named("M", q, p), fn(q, p)},
		{named("AM", whole, text), fn(text, whole)},
		{named("LA", text), slice(whole)},
		{named("K", named("X")), whole},
		{named("KK", named("AR")), whole},
		{named("K", named("AL")), whole},
		{named("H", p), p},
		{named("H", named("H", named("N"))), whole},
		{named("H", slice(named("H", p))), slice(named("H", p))},
		{named("RR"), slice(named("RR"))},
		{named("U"), untyped("int")},
		{named("AP"), p},
		{named("W", p, q), whole},
		// nothing
		{named("X"), no},
		{named("x"), no},
		{named("AX"), no},
		{named("H", named("X")), no},
		{named("R"), no},
		{named("R1"), no},
		{named("AR"), no},
		{named("G", whole), no},
		{named("N", whole), no},
		{named("L"), no},
		{named("L", whole, whole), no},
		{named("M", whole), no},
		{named("AL"), no},
		{named("AW"), no},
		{named("W", p), no},
	} {
		if got := kinds.Behind(definitions(), c.t); !equal(got, c.want) {
			t.Errorf("P10.1: Behind(%v) = %v, want %v", c.t, got, c.want)
		}
		if got := kinds.Comparable(definitions(), c.t); got != (c.want.Kind == 1) {
			t.Errorf("P10.1: Comparable(%v) = %v", c.t, got)
		}
		if got := kinds.Ordered(definitions(), c.t); got != (c.want.Kind == 1 && c.want.Name != "bool") {
			t.Errorf("P10.1: Ordered(%v) = %v", c.t, got)
		}
	}
	if got := kinds.Behind(nil, named("N")); !equal(got, no) {
		t.Errorf("P10.1: Behind without definitions: %v", got)
	}
}

func TestComparableAndOrdered(t *testing.T) {
	for _, c := range []struct {
		t                   kinds.Type
		comparable, ordered bool
	}{
		{whole, true, true}, {text, true, true}, {truth, true, false}, {basic("other"), true, true},
		{named("N"), true, true}, {named("T"), true, true}, {named("Z"), true, false}, {named("AA"), true, true},
		{named("K", slice(whole)), true, true}, {named("H", truth), true, false}, {named("H", text), true, true},
		{named("H", slice(text)), false, false}, {named("H", p), false, false}, {named("B"), false, false}, {named("S"), false, false}, {named("F"), false, false},
		{p, false, false}, {untyped("int"), false, false}, {untyped("bool"), false, false}, {named("U"), false, false},
		{slice(whole), false, false}, {fn(whole), false, false}, {structure("a", whole), false, false}, {nothing, false, false}, {no, false, false},
		{named("X"), false, false}, {named("R"), false, false}, {named("N", whole), false, false},
	} {
		if got := kinds.Comparable(definitions(), c.t); got != c.comparable {
			t.Errorf("P10.1: Comparable(%v) = %v", c.t, got)
		}
		if got := kinds.Ordered(definitions(), c.t); got != c.ordered {
			t.Errorf("P10.1: Ordered(%v) = %v", c.t, got)
		}
	}
}

func TestAssigns(t *testing.T) {
	an := slice(named("N"))
	for _, c := range []struct {
		from, to kinds.Type
		want     bool
	}{
		{whole, whole, true}, {whole, text, false}, {whole, named("N"), false}, {named("N"), whole, false}, {whole, named("AA"), true}, {named("AA"), whole, true},
		{named("N"), named("N"), true}, {named("N"), named("NN"), false}, {named("T"), named("N"), false},
		{named("I"), named("J"), false}, {named("I"), an, true}, {an, named("I"), true}, {named("I"), named("AN"), true}, {named("AN"), named("J"), true}, {slice(whole), named("I"), false},
		{named("B"), slice(whole), true}, {slice(whole), named("B"), true}, {named("B"), named("A"), true}, {named("A"), named("B"), true}, {named("B"), named("LA", text), false},
		{named("F"), fn(an, nothing), true}, {fn(named("AN"), nothing), named("F"), true}, {fn(an), named("F"), false}, {fn(an, nothing), fn(named("AN"), nothing), true},
		{fn(named("I"), nothing), fn(an, nothing), false}, {slice(named("I")), slice(an), false},
		{named("L", whole), slice(whole), true}, {named("AL", whole), named("L", whole), true}, {named("L", whole), named("L", named("AI")), true}, {named("L", whole), named("L", text), false},
		{named("L", named("A")), slice(slice(whole)), true}, {slice(named("A")), named("L", slice(whole)), true}, {named("LA", text), slice(whole), true}, {named("LA", text), named("LA", whole), false},
		{named("L", p), slice(p), true}, {named("L", p), slice(q), false},
		{p, p, true}, {p, q, false}, {p, whole, false}, {whole, p, false}, {named("H", p), p, false}, {p, named("H", p), false}, {p, named("AH", p), true}, {named("AP"), p, true}, {p, slice(p), false},
		{named("S"), structure("a,b", whole, an), true}, {structure("a,b", whole, named("AN")), named("S"), true}, {structure("a,c", whole, an), named("S"), false}, {named("S"), named("S"), true},
		{nothing, nothing, true}, {nothing, whole, false}, {whole, nothing, false}, {named("K", text), whole, false}, {named("K", text), named("K", text), true}, {named("K", text), named("K", truth), false},
		{named("X"), named("X"), true}, {named("X"), named("Y"), false}, {named("AX"), named("X"), true}, {named("R"), named("R"), true}, {named("R"), named("R1"), false}, {named("RR"), slice(named("RR")), true},
		{whole, untyped("int"), false}, {named("U"), whole, false},
		// of untyped ones
		{untyped("int"), whole, true}, {untyped("int"), text, false}, {untyped("string"), text, true}, {untyped("bool"), truth, true}, {untyped("bool"), whole, false},
		{untyped("int"), named("N"), true}, {untyped("int"), named("NN"), true}, {untyped("int"), named("AA"), true}, {untyped("string"), named("N"), false}, {untyped("string"), named("T"), true}, {untyped("bool"), named("Z"), true},
		{untyped("int"), named("K", p), true}, {untyped("int"), named("H", whole), true}, {untyped("int"), named("H", p), false}, {untyped("int"), p, false}, {untyped("P"), p, false},
		{untyped("int"), untyped("int"), false}, {untyped("int"), named("U"), false}, {named("AU"), named("N"), true}, {whole, named("AU"), false}, {untyped("int"), slice(whole), false}, {untyped("int"), no, false}, {untyped(""), no, false}, {untyped("int"), named("X"), false}, {untyped("int"), named("R"), false},
		{untyped("int"), named("AK", text), true}, {untyped("int"), named("AK"), false}, {untyped("int"), named("K", named("A")), true}, {untyped("int"), named("K", named("AL")), false},
		// of what is none in full
		{named("AL"), whole, false}, {whole, named("AL"), false}, {named("AR"), slice(whole), false}, {slice(named("AW")), slice(whole), false}, {no, whole, false}, {whole, no, false}, {no, slice(whole), false}, {slice(whole), no, false},
		// of what is too deep
		{deep(99, whole), deep(99, whole), true}, {deep(99, named("AI")), deep(99, whole), true}, {deep(100, whole), deep(100, whole), false},
	} {
		if got := kinds.Assigns(definitions(), c.from, c.to); got != c.want {
			t.Errorf("P10.1: Assigns(%v, %v) = %v", c.from, c.to, got)
		}
	}
}

// TestAssignsInFull: of two names of one thing one is enough that is neither basic, nor named, nor a parameter.
func TestAssignsInFull(t *testing.T) {
	l := definitions()
	for _, a := range different() {
		for _, b := range different() {
			from, to := kinds.Full(l, a), kinds.Full(l, b)
			if kinds.Assigns(l, a, b) != kinds.Assigns(l, from, to) {
				t.Errorf("P10.1: Assigns(%v, %v) is not as in full", a, b)
			}
			if a.Kind != 2 && b.Kind != 2 && kinds.Assigns(l, a, b) != kinds.Assigns(l, b, a) {
				t.Errorf("P10.1: Assigns(%v, %v) is not as the other way round", a, b)
			}
		}
		if a.Kind != 2 && !kinds.Assigns(l, a, a) {
			t.Errorf("P10.1: Assigns(%v) to itself", a)
		}
	}
}
