package kinds_test

import (
	"math/rand/v2"
	"testing"

	"demotic/kinds"
)

// slowWith, slowFull, slowBehind do what the chapter's words say, one by one: types are made at each step.

func slowWith(t kinds.Type, params []string, by []kinds.Type) kinds.Type {
	if t.Kind == 4 {
		for i := range min(len(params), len(by)) {
			if params[i] == t.Name {
				return by[i]
			}
		}
	}
	var args []kinds.Type
	for _, x := range t.Args {
		args = append(args, slowWith(x, params, by))
	}
	return of(t.Kind, t.Name, args...)
}

func slowDef(l []kinds.Def, name string) (kinds.Def, bool) {
	for _, d := range l {
		if d.Name == name {
			return d, true
		}
	}
	return kinds.Def{}, false
}

func slowFull(l []kinds.Def, t kinds.Type, within int, looks *int) (kinds.Type, bool) {
	if *looks++; *looks >= 20000 {
		return no, false
	}
	var args []kinds.Type
	for _, x := range t.Args {
		arg, ok := slowFull(l, x, within, looks)
		if !ok {
			return no, false
		}
		args = append(args, arg)
	}
	d, ok := slowDef(l, t.Name)
	if t.Kind != 3 || !ok || !d.Alias {
		return of(t.Kind, t.Name, args...), true
	}
	if len(d.Params) != len(args) || within == 100 {
		return no, false
	}
	return slowFull(l, slowWith(d.Type, d.Params, args), within+1, looks)
}

// looked tells at how many types is looked, as long as there are not too many.
func looked(l []kinds.Def, t kinds.Type) int {
	looks := 0
	slowFull(l, t, 0, &looks)
	return looks
}

func slowBehind(l []kinds.Def, t kinds.Type) kinds.Type {
	for range 100 {
		if t.Kind != 3 {
			return t
		}
		d, ok := slowDef(l, t.Name)
		if !ok || len(d.Params) != len(t.Args) || size(t) > 1000 {
			return no
		}
		t = slowWith(d.Type, d.Params, t.Args)
	}
	return no
}

// maker makes types and definitions of a row of numbers.
type maker struct{ next func(n int) int }

func (m maker) kind(most int) kinds.Type {
	names := []string{"A", "B", "C", "D", "E", "F", "X"}
	row := func(n int) []kinds.Type {
		var l []kinds.Type
		for range n {
			l = append(l, m.kind(most/2))
		}
		return l
	}
	if most < 1 {
		return []kinds.Type{whole, text, p, q, named("A"), named("B")}[m.next(6)]
	}
	switch m.next(9) {
	case 0:
		return []kinds.Type{whole, text, truth, untyped("int"), nothing, no}[m.next(6)]
	case 1:
		return []kinds.Type{p, q}[m.next(2)]
	case 2:
		return of(5, "", row(1)...)
	case 3:
		return of(6, "", row(m.next(4))...)
	case 4:
		return of(8, "a,b", row(2)...)
	}
	return named(names[m.next(len(names))], row(m.next(3))...)
}

func (m maker) definitions() []kinds.Def {
	var l []kinds.Def
	for _, name := range []string{"A", "B", "C", "D", "E", "F"} {
		params := [][]string{nil, {"P"}, {"P"}, {"P", "Q"}, {"Q", "P"}, {"P", "P"}}[m.next(6)]
		l = append(l, kinds.Def{Name: name, Params: params, Type: m.kind(8), Alias: m.next(2) == 0})
	}
	return l
}

func tied(t kinds.Type) bool { return t.Kind == 1 || t.Kind == 3 || t.Kind == 4 }

// hold holds a type, and its being assigned to another one, against the chapter's words.
func hold(t *testing.T, l []kinds.Def, a, b kinds.Type) {
	t.Helper()
	full := func(x kinds.Type) kinds.Type {
		looks := 0
		x, _ = slowFull(l, x, 0, &looks)
		return x
	}
	if got, want := kinds.Full(l, a), full(a); !equal(got, want) {
		t.Errorf("P10.1: Full(%v, %v) = %.500v, want %.500v", l, a, got, want)
	}
	behind := slowBehind(l, a)
	if got := kinds.Behind(l, a); !equal(got, behind) {
		t.Errorf("P10.1: Behind(%v, %v) = %.500v, want %.500v", l, a, got, behind)
	}
	if kinds.Comparable(l, a) != (behind.Kind == 1) || kinds.Ordered(l, a) != (behind.Kind == 1 && behind.Name != "bool") {
		t.Errorf("P10.1: Comparable, Ordered(%v, %v)", l, a)
	}
	if got, want := kinds.With(a, []string{"P", "Q"}, []kinds.Type{b, a}), slowWith(a, []string{"P", "Q"}, []kinds.Type{b, a}); !equal(got, want) {
		t.Errorf("P10.1: With(%v, by %v) = %.500v, want %.500v", a, b, got, want)
	}
	from, to := full(a), full(b)
	want := kinds.Same(from, to) || !(tied(from) && tied(to)) && kinds.Same(full(slowBehind(l, from)), full(slowBehind(l, to)))
	if from.Kind == 2 {
		want = slowBehind(l, to).Kind == 1 && slowBehind(l, to).Name == from.Name
	}
	if kinds.Assigns(l, a, b) != want {
		t.Errorf("P10.1: Assigns(%v, %v, %v) = %v", l, a, b, !want)
	}
}

func TestAsTheWordsSay(t *testing.T) {
	chance := rand.New(rand.NewPCG(10, 1))
	m := maker{chance.IntN}
	found := map[string]int{}
	for range 8000 {
		l := m.definitions()
		for range 4 {
			a, b := m.kind(16), m.kind(16)
			hold(t, l, a, b)
			hold(t, l, a, kinds.Behind(l, a))
			for what, so := range map[string]bool{"full": kinds.Full(l, a).Kind == 0, "behind": kinds.Behind(l, a).Kind == 0, "great": looked(l, a) >= 20000, "assigns": kinds.Assigns(l, a, b)} {
				if so {
					found[what]++
				}
			}
		}
	}
	for what, least := range map[string]int{"full": 1000, "behind": 1000, "great": 5, "assigns": 1000} {
		if found[what] < least {
			t.Errorf("few were %s: %d", what, found[what])
		}
	}
}

// TestFullAgain: what is in full stays as it is.
func TestFullAgain(t *testing.T) {
	chance := rand.New(rand.NewPCG(10, 2))
	m := maker{chance.IntN}
	for range 20000 {
		l := m.definitions()
		a := m.kind(16)
		if b := kinds.Full(l, a); !equal(kinds.Full(l, b), b) {
			t.Errorf("P10.1: Full(%v, %v) is not in full", l, a)
		}
	}
}

func FuzzKinds(f *testing.F) {
	f.Add([]byte{})
	f.Add([]byte("types, and what stands behind their names"))
	f.Fuzz(func(t *testing.T, b []byte) {
		m := maker{func(n int) int {
			if len(b) == 0 {
				return 0
			}
			x := int(b[0])
			b = b[1:]
			return x % n
		}}
		l := m.definitions()
		x, y := m.kind(16), m.kind(16)
		hold(t, l, x, y)
		if s := kinds.Text(x); s != "" && !kinds.Same(kinds.Of(kinds.Tree(x), []string{"P", "Q"}), x) {
			t.Errorf("P10.3: %s is not read again", s)
		}
	})
}
