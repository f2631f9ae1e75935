package unify_test

import (
	"math/rand/v2"
	"slices"
	"testing"

	"demotic/kinds"
	"demotic/unify"
)

// slowFits, slowFind do what the chapter's words say, one by one: all is taken in full at each step.

func slowFits(l []kinds.Def, names []string, pattern, t kinds.Type, by []kinds.Type) ([]kinds.Type, bool) {
	if slowDepth(pattern) > 100 || slowDepth(t) > 100 || len(by) != len(names) || twice(names) {
		return nil, false
	}
	return slowPart(l, names, pattern, t, by, 1)
}

func twice(names []string) bool {
	for i, name := range names {
		if slices.Contains(names[i+1:], name) {
			return true
		}
	}
	return false
}

func slowDepth(t kinds.Type) int {
	most := 0
	for _, x := range t.Args {
		most = max(most, slowDepth(x))
	}
	return most + 1
}

func slowPart(l []kinds.Def, names []string, pattern, t kinds.Type, by []kinds.Type, deep int) ([]kinds.Type, bool) {
	pattern, t = kinds.Full(l, pattern), kinds.Full(l, t)
	var full []kinds.Type
	for _, x := range by {
		full = append(full, kinds.Full(l, x))
	}
	by = full
	if pattern.Kind == 0 || t.Kind == 0 || deep > 100 {
		return nil, false
	}
	for i, name := range names {
		if pattern.Kind == 4 && pattern.Name == name {
			if by[i].Kind == 0 {
				by[i] = t
				return by, true
			}
			return by, kinds.Same(by[i], t)
		}
	}
	behind := t
	if t.Kind == 3 {
		behind = kinds.Behind(l, t)
	}
	switch {
	case (pattern.Kind == 5 || pattern.Kind == 6) && pattern.Kind == behind.Kind:
		return slowRow(l, names, pattern, behind, by, deep)
	case pattern.Kind == 3 && t.Kind == 3 && pattern.Name == t.Name:
		return slowRow(l, names, pattern, t, by, deep)
	}
	return by, kinds.Same(pattern, t)
}

func slowRow(l []kinds.Def, names []string, pattern, t kinds.Type, by []kinds.Type, deep int) ([]kinds.Type, bool) {
	ok := pattern.Name == t.Name && len(pattern.Args) == len(t.Args)
	for i := 0; ok && i < len(t.Args); i++ {
		by, ok = slowPart(l, names, pattern.Args[i], t.Args[i], by, deep+1)
	}
	return by, ok
}

func slowFind(l []kinds.Def, names []string, patterns, types []kinds.Type) ([]kinds.Type, bool) {
	by := make([]kinds.Type, len(names))
	if len(patterns) != len(types) || twice(names) {
		return nil, false
	}
	for i, t := range types {
		if t.Kind != 2 {
			var ok bool
			if by, ok = slowFits(l, names, patterns[i], t, by); !ok {
				return nil, false
			}
		}
	}
	loose := make([]string, len(names)) // what an untyped one left
	for i, t := range types {
		for j, name := range names {
			if t.Kind != 2 || patterns[i].Kind != 4 || patterns[i].Name != name || by[j].Kind != 0 && loose[j] == "" {
				continue
			}
			if loose[j] != "" && loose[j] != t.Name {
				return nil, false
			}
			loose[j], by[j] = t.Name, basic(t.Name)
		}
	}
	return by, !slices.ContainsFunc(by, func(t kinds.Type) bool { return t.Kind == 0 })
}

// maker makes types and definitions of a row of numbers.
type maker struct{ next func(n int) int }

func (m maker) row(n, most int) []kinds.Type {
	var l []kinds.Type
	for range n {
		l = append(l, m.kind(most/2))
	}
	return l
}

func (m maker) kind(most int) kinds.Type {
	if most < 1 {
		return []kinds.Type{whole, text, p, q, named("A"), named("B")}[m.next(6)]
	}
	switch m.next(10) {
	case 0:
		return []kinds.Type{whole, text, untyped("int"), nothing, no, s}[m.next(6)]
	case 1, 2:
		return []kinds.Type{p, q}[m.next(2)]
	case 3, 4, 5:
		return of(5, "", m.row(1, most)...)
	case 6:
		return of(6, "", m.row(1+m.next(2), most)...)
	case 7:
		return of(8, "a,b", m.row(2, most)...)
	}
	return named([]string{"A", "B", "C", "D", "E", "X"}[m.next(6)], m.row(m.next(3), most)...)
}

func (m maker) definitions() []kinds.Def {
	var l []kinds.Def
	for _, name := range []string{"A", "B", "C", "D", "E"} {
		params := [][]string{nil, nil, {"P"}, {"P", "Q"}, {"Q", "P"}, {"P", "P"}}[m.next(6)]
		l = append(l, kinds.Def{Name: name, Params: params, Type: m.kind(4), Alias: m.next(3) == 0})
	}
	return l
}

// filled is a pattern, types in the place of some of its parts: it may fit, then.
func (m maker) filled(l []kinds.Def, pattern kinds.Type) kinds.Type {
	switch m.next(8) {
	case 0:
		return kinds.Full(l, pattern)
	case 1:
		return m.kind(2)
	case 2, 3:
		for _, name := range []string{"A", "B", "C", "D", "E"}[m.next(5):] {
			x := named(name, m.row(m.next(3), 2)...)
			if b := kinds.Behind(l, x); b.Kind == pattern.Kind && len(b.Args) == len(pattern.Args) {
				return x
			}
		}
	}
	if pattern.Kind == 4 {
		return []kinds.Type{whole, text, slice(whole), named("A"), pattern}[m.next(5)]
	}
	pattern = copied(pattern)
	for i, x := range pattern.Args {
		pattern.Args[i] = m.filled(l, x)
	}
	return pattern
}

// hold holds what is found against the chapter's words; it tells whether something was found by Fits, by Find.
func hold(t *testing.T, m maker) (bool, bool) {
	t.Helper()
	l, names := m.definitions(), [][]string{{"P"}, {"P", "Q"}, {"Q", "P"}, {}, {"P", "P"}}[[]int{0, 1, 1, 1, 2, 2, 3, 4}[m.next(8)]]
	pattern := m.kind(8)
	of, by := m.filled(l, pattern), make([]kinds.Type, len(names))
	for i := range by {
		if m.next(2) == 0 {
			by[i] = m.filled(l, p)
		}
	}
	want, fits := slowFits(l, names, pattern, of, by)
	if !fits {
		want = nil
	}
	if got, ok := unify.Fits(l, names, pattern, of, by); ok != fits || !equals(got, want) {
		t.Errorf("P12.1: Fits(%v, %q, %v, %v, %v) = %v, %v, want %v", l, names, pattern, of, by, got, ok, want)
	}
	patterns, types := row(p, q, p, q)[m.next(4):], row(untyped("int"), of)
	for i, x := range patterns {
		if i > 1 {
			types = append(types, []kinds.Type{untyped("int"), untyped("string"), m.filled(l, x)}[m.next(3)])
		}
	}
	types = types[:len(patterns)]
	patterns[m.next(len(patterns))] = pattern
	want, found := slowFind(l, names, patterns, types)
	if !found {
		want = nil
	}
	if got, ok := unify.Find(l, names, patterns, types); ok != found || !equals(got, want) {
		t.Errorf("P12.1: Find(%v, %q, %v, %v) = %v, %v, want %v", l, names, patterns, types, got, ok, want)
	}
	return fits, found
}

func TestAsTheWordsSay(t *testing.T) {
	chance := rand.New(rand.NewPCG(12, 1))
	fits, found := 0, 0
	for range 40000 {
		a, b := hold(t, maker{chance.IntN})
		if a {
			fits++
		}
		if b {
			found++
		}
	}
	if fits < 8000 || found < 5000 {
		t.Errorf("few fit: %d, %d", fits, found)
	}
}

// TestWhatFollows: with what was found a pattern is its type in full, or what stands behind it. (A part of a type that
// has no name in it is a named one: with what was found there is what stands behind that one in its place.)
func TestWhatFollows(t *testing.T) {
	l := definitions()
	patterns := row(p, q, slice(p), slice(slice(q)), fn(p, q), fn(p, p), fn(slice(q), p), named("M", p, q), named("M", q, slice(p)), named("AL", q), named("AP", p), named("AN", p), named("AM", p, q), slice(named("L", p)), named("R"), fn(slice(p), nothing))
	types := row(whole, text, named("N"), named("A"), named("R"), named("AR"), named("RR"), named("I"), named("F"), named("RA"), slice(whole), slice(text), slice(slice(whole)), slice(named("L", text)), fn(whole, text), fn(text, text), fn(whole, nothing), fn(slice(whole), text), fn(slice(text), nothing), named("L", whole), named("L", slice(whole)), named("AL", text), named("AN", whole), named("M", whole, text), named("M", whole, slice(text)), named("AM", whole, text), fn(whole, whole, text), untyped("int"), untyped("string"), named("U"), slice(named("R")), named("O"), s, slice(s))
	found := 0
	for _, a := range patterns {
		for _, b := range patterns {
			for _, x := range types {
				for _, y := range types {
					by, ok := unify.Find(l, []string{"P", "Q"}, row(a, b), row(x, y))
					if !ok {
						continue
					}
					found++
					follows(t, l, kinds.With(a, []string{"P", "Q"}, by), x)
					follows(t, l, kinds.With(b, []string{"P", "Q"}, by), y)
				}
			}
		}
	}
	if found < 3000 {
		t.Errorf("few were found: %d", found)
	}
}

// follows holds a pattern with what was found against its type.
func follows(t *testing.T, l []kinds.Def, with, of kinds.Type) {
	t.Helper()
	with, of = kinds.Full(l, with), kinds.Full(l, of)
	if of.Kind == 2 || kinds.Same(with, of) || kinds.Same(with, kinds.Full(l, kinds.Behind(l, of))) {
		return
	}
	if within := kinds.Full(l, kinds.Behind(l, of)); within.Kind == with.Kind && len(within.Args) == len(with.Args) && hasNamed(within) {
		for i, x := range with.Args {
			follows(t, l, x, within.Args[i])
		}
		return
	}
	t.Errorf("P12.2: %v is not %v", with, of)
}

// hasNamed: is there a slice's or a function's name in a type's parts?
func hasNamed(t kinds.Type) bool {
	return slices.ContainsFunc(t.Args, func(x kinds.Type) bool { return x.Kind == 3 || hasNamed(x) })
}

func FuzzUnify(f *testing.F) {
	f.Add([]byte{})
	f.Add([]byte("which types stand for parameters"))
	f.Fuzz(func(t *testing.T, b []byte) {
		hold(t, maker{func(n int) int {
			if len(b) == 0 {
				return 0
			}
			x := int(b[0])
			b = b[1:]
			return x % n
		}})
	})
}
