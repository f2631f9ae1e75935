package kinds_test

import (
	"slices"
	"strconv"
	"testing"

	"demotic/kinds"
)

// chain is so many definitions, each by the next one's name, as within tells; the last one is an int.
func chain(length int, isAlias bool, within func(kinds.Type) kinds.Type) []kinds.Def {
	var l []kinds.Def
	for i := range length {
		next := within(named("C" + strconv.Itoa(i+1)))
		if i == length-1 {
			next = whole
		}
		l = append(l, kinds.Def{Name: "C" + strconv.Itoa(i), Type: next, Alias: isAlias})
	}
	return l
}

func bare(t kinds.Type) kinds.Type { return t }

// TestSteps: from a name to what stands behind it there are fewer than 100 steps, of aliases, too.
func TestSteps(t *testing.T) {
	for _, isAlias := range []bool{false, true} {
		l := chain(250, isAlias, bare)
		for left := range 250 { // so many more names behind the one that is asked
			c := named("C" + strconv.Itoa(249-left))
			want := no
			if left+1 < 100 {
				want = whole
			}
			if got := kinds.Behind(l, c); !equal(got, want) {
				t.Errorf("P10.1: Behind after %d steps: %v", left+1, got)
			}
			if kinds.Comparable(l, c) != (left+1 < 100) || kinds.Ordered(l, c) != (left+1 < 100) {
				t.Errorf("P10.1: Comparable, Ordered after %d steps", left+1)
			}
			if !isAlias && kinds.Assigns(l, untyped("int"), c) != (left+1 < 100) {
				t.Errorf("P10.1: Assigns after %d steps", left+1)
			}
		}
	}
}

// TestStepsOfWhatWasGiven: a step to what was given for a parameter is one, too.
func TestStepsOfWhatWasGiven(t *testing.T) {
	l := []kinds.Def{def("H", p, "P"), def("N", whole)}
	c := named("N")
	for steps := 1; steps < 150; steps++ {
		if got := kinds.Behind(l, c); (got.Kind == 1) != (steps < 100) {
			t.Errorf("P10.1: Behind after %d steps: %v", steps, got)
		}
		c = named("H", c)
	}
}

// TestTypesOfAStep: no step is done of a named type with more than 1000 types in it.
func TestTypesOfAStep(t *testing.T) {
	l := []kinds.Def{
		def("K", whole, "P"), def("L", slice(p), "P"), def("D", named("K", fn(p, p)), "P"), def("E", named("H", p), "P"), def("H", p, "P"),
		{Name: "V", Params: slices.Repeat([]string{"P"}, 999), Type: whole}, {Name: "V", Params: slices.Repeat([]string{"P"}, 1000), Type: whole},
	}
	for _, c := range []struct {
		name string
		arg  kinds.Type
		want kinds.Type
	}{
		{"K", wide(998, whole), whole},
		{"K", wide(999, whole), whole},
		{"K", wide(1000, whole), no},
		{"K", wide(5000, whole), no},
		{"K", deep(998, whole), whole},
		{"K", deep(999, whole), no},
		{"K", deep(9998, whole), no},
		{"L", wide(999, p), slice(wide(999, p))},
		{"L", wide(1000, p), no},
		{"D", wide(499, whole), whole}, // then K of a function of two of these: 1000
		{"D", wide(500, whole), no},
		{"E", wide(999, whole), wide(999, whole)},
		{"E", wide(1000, whole), no},
		{"H", wide(999, whole), wide(999, whole)},
		{"H", named("K", wide(998, whole)), whole},
		{"H", named("K", wide(999, whole)), no},
	} {
		c.arg = copied(c.arg)
		if got := kinds.Behind(l, named(c.name, c.arg)); !equal(got, c.want) {
			t.Errorf("P10.1: Behind of %s, of %d types: %.100v", c.name, size(c.arg), got)
		}
		if got := kinds.Comparable(l, named(c.name, c.arg)); got != (c.want.Kind == 1) {
			t.Errorf("P10.1: Comparable of %s, of %d types: %v", c.name, size(c.arg), got)
		}
	}
	if got := kinds.Behind(l, named("V", slices.Repeat([]kinds.Type{text}, 999)...)); !equal(got, whole) {
		t.Errorf("P10.1: Behind of a name with 999 types: %v", got)
	}
	if got := kinds.Behind(l[:5], named("V", slices.Repeat([]kinds.Type{text}, 1000)...)); !equal(got, no) {
		t.Errorf("P10.1: Behind of a name with 1000 types: %v", got)
	}
	for _, x := range []kinds.Type{wide(5000, whole), deep(5000, whole), structure("a", wide(5000, whole))} {
		if got := kinds.Behind(l, x); !equal(got, x) {
			t.Errorf("P10.1: Behind of what is not named, and of many types: %.100v", got)
		}
	}
}

func size(t kinds.Type) int {
	n := 1
	for _, x := range t.Args {
		n += size(x)
	}
	return n
}

// TestNamesWithinOneAnother: more than 100 names of aliases do not come within one another, each in the type of the one ahead.
func TestNamesWithinOneAnother(t *testing.T) {
	for _, within := range []func(kinds.Type) kinds.Type{bare, slice, func(t kinds.Type) kinds.Type { return fn(whole, slice(t), nothing) }, func(t kinds.Type) kinds.Type { return named("X", t) }} {
		l := chain(250, true, within)
		want := whole
		for n := 1; n <= 250; n++ {
			got := kinds.Full(l, named("C"+strconv.Itoa(250-n)))
			if n > 100 {
				want = no
			}
			if !equal(got, want) {
				t.Errorf("P10.1: Full with %d names within one another: %.100v", n, got)
			}
			want = within(want)
		}
	}
	if got := kinds.Full(chain(250, false, bare), named("C0")); !equal(got, named("C0")) {
		t.Errorf("P10.1: Full of what is no alias: %v", got)
	}
}

// TestNamesBesideOneAnother: names in what is given, or one behind the other, are not within one another.
func TestNamesBesideOneAnother(t *testing.T) {
	l := []kinds.Def{alias("A", p, "P"), alias("B", slice(p), "P"), alias("I", whole), alias("O", named("A", named("B", named("A", p))), "P")}
	c, want := named("I"), whole
	for range 60 {
		c, want = named("A", named("B", c)), slice(want)
	}
	if got := kinds.Full(l, c); !equal(got, want) {
		t.Errorf("P10.1: Full of 120 names in one another: %v", got)
	}
	for range 30 {
		c, want = named("O", c), slice(want)
	}
	if got := kinds.Full(l, c); !equal(got, want) {
		t.Errorf("P10.1: Full of more names in one another: %v", got)
	}
	if got := kinds.Full(l, wide(150, named("I"))); !equal(got, wide(150, whole)) {
		t.Errorf("P10.1: Full of 149 names, one behind the other: %v", got)
	}
}

// TestLooks: fewer than 20000 types are looked at: each type, all in it, then what comes in its place.
func TestLooks(t *testing.T) {
	const looks = 20000
	l := []kinds.Def{
		alias("I", whole), alias("A", p, "P"), alias("K", whole, "P"), alias("D", fn(p, p), "P"), alias("C", named("D", named("D", p)), "P"),
		alias("W", wide(5000, whole)), alias("V", wide(5000, p), "P"), def("N", wide(50000, whole)),
	}
	times := func(n int, t ...kinds.Type) []kinds.Type { return slices.Repeat(t, n) }
	for _, c := range []struct {
		name  string
		t     kinds.Type
		looks int
		want  kinds.Type
	}{
		{"types", wide(19999, whole), 19999, wide(19999, whole)},
		{"types, one more", wide(20000, whole), 20000, no},
		{"many types", wide(50000, whole), 50000, no},
		{"deep types", fn(append(times(9999, whole), deep(9998, whole))...), 19999, fn(append(times(9999, whole), deep(9998, whole))...)},
		{"deep types, one more", fn(append(times(10000, whole), deep(9998, whole))...), 20000, no},
		{"a name without types", fn(append(times(19996, whole), named("I"))...), 19999, wide(19998, whole)},
		{"a name without types, one more", fn(append(times(19997, whole), named("I"))...), 20000, no},
		{"names without types", wide(10000, named("I")), 19999, wide(10000, whole)},
		{"names of no alias", wide(19999, named("N")), 19999, wide(19999, named("N"))},
		{"a name for what it is given", named("A", wide(9999, whole)), 19999, wide(9999, whole)},
		{"a name for what it is given, one more", fn(named("A", wide(9999, whole))), 20000, no},
		{"what is not in its place", named("K", wide(19997, whole)), 19999, whole},
		{"what is not in its place, one more", named("K", wide(19998, whole)), 20000, no},
		{"twice what it is given", named("D", wide(6665, whole)), 19997, fn(wide(6665, whole), wide(6665, whole))},
		{"twice, more", fn(append(times(1, whole), named("D", wide(6665, whole)))...), 19999, fn(whole, fn(wide(6665, whole), wide(6665, whole)))},
		{"twice, one more", fn(whole, whole, named("D", wide(6665, whole))), 20000, no},
		{"great ones", fn(append(times(3, named("W")), times(4995, text)...)...), 1 + 3*5001 + 4995, fn(append(times(3, wide(5000, whole)), times(4995, text)...)...)},
		{"great ones, one more", fn(append(times(3, named("W")), times(4996, text)...)...), 1 + 3*5001 + 4996, no},
		{"what is given is in full in its place", named("A", named("A", wide(6665, whole))), 1 + (1 + 2*6665) + 6665, wide(6665, whole)},
		{"what is given is in full in its place, more", fn(append(times(2, whole), named("A", named("A", wide(6665, whole))))...), 20000, no},
		{"in its place a name", named("C", wide(1537, whole)), 1 + 1537 + (1 + (1 + 1537 + 1 + 2*1537) + 1 + 2*(1+2*1537)), fn(fn(wide(1537, whole), wide(1537, whole)), fn(wide(1537, whole), wide(1537, whole)))},
		{"in its place great ones", named("V", wide(4, whole)), 1 + 4 + 1 + 4999*4, no},
		{"in its place less great ones", named("V", wide(2, whole)), 1 + 2 + 1 + 4999*2, wide(5000, wide(2, whole))},
	} {
		if slow := looked(l, c.t); slow != min(c.looks, looks) {
			t.Fatalf("%s: %d looks", c.name, slow)
		}
		if (c.looks < looks) != (c.want.Kind != 0) {
			t.Fatalf("%s is told wrongly", c.name)
		}
		if got := kinds.Full(l, c.t); !equal(got, c.want) {
			t.Errorf("P10.1: Full: %s: %.100v", c.name, got)
		}
	}
}

// TestDoubles: what doubles again and again is none in full, and the answer comes.
func TestDoubles(t *testing.T) {
	l := []kinds.Def{alias("D", fn(p, p), "P"), alias("E", named("E", fn(p, p)), "P"), def("F", named("F", fn(p, p)), "P"), def("G", fn(named("G", p), named("G", p)), "P")}
	c, want := whole, whole
	for n := range 40 {
		if looked(l, c) >= 20000 {
			want = no
		}
		if got := kinds.Full(l, c); !equal(got, want) {
			t.Errorf("P10.1: Full of what doubles %d times", n)
		}
		c, want = named("D", c), fn(want, want)
	}
	for _, x := range []kinds.Type{named("E", whole), fn(named("E", p))} {
		if got := kinds.Full(l, x); !equal(got, no) {
			t.Errorf("P10.1: Full(%v) = %.100v", x, got)
		}
	}
	if got := kinds.Behind(l, named("F", whole)); !equal(got, no) {
		t.Errorf("P10.1: Behind of what doubles: %.100v", got)
	}
	if got := kinds.Behind(l, named("G", whole)); !equal(got, fn(named("G", whole), named("G", whole))) {
		t.Errorf("P10.1: Behind of what leads to itself: %v", got)
	}
}

// TestGreatDefinitions: what is too great to be made is not made where it need not be told.
func TestGreatDefinitions(t *testing.T) {
	const many = 1_000_000
	l := []kinds.Def{
		def("G", wide(many, p), "P"), def("S", named("X", wide(many, p)), "P"), alias("A", wide(many, p), "P"),
		def("GA", named("A", p), "P"), def("N", of(1, "int", wide(many, p)), "P"),
	}
	arg := wide(998, whole)
	g, s, a := named("G", arg), named("S", arg), named("A", arg)
	if kinds.Comparable(l, g) || kinds.Ordered(l, g) || kinds.Comparable(l, a) || !kinds.Comparable(l, named("N", arg)) || !kinds.Ordered(l, named("N", arg)) {
		t.Error("P10.1: Comparable and Ordered of great ones")
	}
	if got := kinds.Behind(l, s); !equal(got, no) {
		t.Errorf("P10.1: Behind of a great one: %.100v", got)
	}
	if got := kinds.Full(l, a); !equal(got, no) {
		t.Errorf("P10.1: Full of a great one: %.100v", got)
	}
	if kinds.Assigns(l, g, slice(whole)) || kinds.Assigns(l, slice(whole), g) || kinds.Assigns(l, a, slice(whole)) || kinds.Assigns(l, untyped("int"), g) || !kinds.Assigns(l, g, g) || kinds.Assigns(l, named("GA", whole), wide(5, whole)) {
		t.Error("P10.1: Assigns of great ones")
	}
}

// TestManyDefinitions: among many names, too, the first one counts.
func TestManyDefinitions(t *testing.T) {
	var l []kinds.Def
	var row, want []kinds.Type
	for i := range 3000 {
		x := kinds.Def{Name: "N" + strconv.Itoa(i%2000), Type: basic(strconv.Itoa(i)), Alias: i%3 > 0}
		l = append(l, x)
	}
	for i := range 2500 {
		row = append(row, named("N"+strconv.Itoa(i)))
		want = append(want, row[i])
		if i < 2000 && i%3 > 0 {
			want[i] = basic(strconv.Itoa(i))
		}
		got := kinds.Behind(l, row[i])
		if i < 2000 && !equal(got, basic(strconv.Itoa(i))) || i >= 2000 && !equal(got, no) {
			t.Errorf("P10.1: Behind of N%d: %v", i, got)
		}
	}
	if got := kinds.Full(l, fn(row...)); !equal(got, fn(want...)) {
		t.Error("P10.1: Full of many names")
	}
}
