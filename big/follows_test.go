package big_test

import (
	whole "math/big"
	"math/rand/v2"
	"strings"
	"testing"

	"demotic/api"
	"demotic/big"
)

// chance makes numbers by chance, always the same ones.
type chance struct{ *rand.Rand }

func newChance(seed uint64) chance {
	return chance{rand.New(rand.NewPCG(seed, 9))}
}

// number tells one of at most so many bits.
func (c chance) number(bits int) string {
	x := new(whole.Int)
	for range 1 + c.IntN(bits) {
		x.Lsh(x, 1)
		x.SetBit(x, 0, uint(c.IntN(2)))
	}
	return c.signed(x)
}

// rough tells one of at most so many rows of figures where carrying and guessing are at their edges.
func (c chance) rough(rows int) string {
	digits := []string{
		"000000000", "000000001", "000000002", "499999999", "500000000", "500000001", "999999998", "999999999", "333333333", "100000000",
	}
	var b strings.Builder
	for range 1 + c.IntN(rows) {
		b.WriteString(digits[c.IntN(len(digits))])
	}
	x, _ := new(whole.Int).SetString(b.String(), 10)
	return c.signed(x)
}

func (c chance) signed(x *whole.Int) string {
	if c.IntN(2) == 0 {
		x.Neg(x)
	}
	return x.String()
}

func TestNumbersByChance(t *testing.T) {
	c := newChance(1)
	for range 8000 {
		hold(t, c.number(512), c.number(512))
		hold(t, c.number(256), c.number(256))
		hold(t, c.number(512), c.number(70))
	}
}

func TestRoughNumbers(t *testing.T) {
	c := newChance(2)
	for range 25000 {
		hold(t, c.rough(17), c.rough(17))
		hold(t, c.rough(5), c.rough(3))
		hold(t, c.rough(9), c.rough(2))
	}
}

// right tells what came of a call that has no error.
func right(t *testing.T, s string, e api.Errno) string {
	t.Helper()
	if e != api.OK || !big.Right(s) {
		t.Errorf("P9.1: %q, %d", s, e)
	}
	return s
}

// reckoner does the signs, none of which may have an error.
type reckoner struct{ *testing.T }

func (r reckoner) sum(a, b string) string {
	s, e := big.Sum(a, b)
	return right(r.T, s, e)
}

func (r reckoner) less(a, b string) string {
	s, e := big.Less(a, b)
	return right(r.T, s, e)
}

func (r reckoner) times(a, b string) string {
	s, e := big.Times(a, b)
	return right(r.T, s, e)
}

func (r reckoner) quotient(a, b string) string {
	s, e := big.Quotient(a, b)
	return right(r.T, s, e)
}

func (r reckoner) rest(a, b string) string {
	s, e := big.Rest(a, b)
	return right(r.T, s, e)
}

func TestOrderAndUndoing(t *testing.T) {
	c := newChance(3)
	do := reckoner{t}
	for i := range 10000 {
		x, y, z := c.number(168), c.number(168), c.number(168)
		if i%2 == 0 {
			x, y, z = c.rough(5), c.rough(5), c.rough(5)
		}
		for name, pair := range map[string][2]string{
			"the order of a sum":         {do.sum(x, y), do.sum(y, x)},
			"the order of sums":          {do.sum(do.sum(x, y), z), do.sum(x, do.sum(y, z))},
			"the order of a product":     {do.times(x, y), do.times(y, x)},
			"the order of products":      {do.times(do.times(x, y), z), do.times(x, do.times(y, z))},
			"a product of a sum":         {do.times(x, do.sum(y, z)), do.sum(do.times(x, y), do.times(x, z))},
			"a sum undone":               {do.less(do.sum(x, y), y), x},
			"a difference undone":        {do.sum(do.less(x, y), y), x},
			"a difference turned":        {do.less(x, y), do.less("0", do.less(y, x))},
			"nothing more":               {do.sum(x, "0"), x},
			"nothing left":               {do.less(x, x), "0"},
			"once":                       {do.times(x, "1"), x},
			"turned twice":               {do.times(do.times(x, "-1"), "-1"), x},
			"a difference is a sum":      {do.less(x, y), do.sum(x, do.times(y, "-1"))},
			"as a difference is":         {big.Text(big.Compare(x, y)), big.Text(big.Compare(do.less(x, y), "0"))},
			"as the other way round not": {big.Text(big.Compare(x, y)), big.Text(-big.Compare(y, x))},
		} {
			if pair[0] != pair[1] {
				t.Errorf("P9.3: %s: %s and %s (of %s, %s, %s)", name, pair[0], pair[1], x, y, z)
			}
		}
	}
}

func TestQuotientsUndone(t *testing.T) {
	c := newChance(4)
	do := reckoner{t}
	for i := range 10000 {
		x, y := c.number(255), c.number(255)
		if i%2 == 0 {
			x, y = c.rough(8), c.rough(8)
		}
		if y == "0" {
			continue
		}
		product := do.times(x, y)
		if got := do.quotient(product, y); got != x {
			t.Errorf("P9.3: Quotient(%s, %s) = %s, want %s", product, y, got, x)
		}
		if got := do.rest(product, y); got != "0" {
			t.Errorf("P9.3: Rest(%s, %s) = %s", product, y, got)
		}
		rest := do.rest(x, y)
		if got := do.sum(do.times(do.quotient(x, y), y), rest); got != x {
			t.Errorf("P9.3: a quotient and a rest of %s, %s: %s", x, y, got)
		}
		if amount(rest) == amount(y) || big.Compare(amount(rest), amount(y)) > 0 || rest != "0" && (rest[0] == '-') != (x[0] == '-') {
			t.Errorf("P9.1: Rest(%s, %s) = %s", x, y, rest)
		}
	}
}

func amount(s string) string {
	return strings.TrimPrefix(s, "-")
}

// TestSameAgain: what is told ahead changes nothing.
func TestSameAgain(t *testing.T) {
	c := newChance(5)
	type told struct {
		s string
		e api.Errno
	}
	ahead := map[[3]string]told{}
	for range 500 {
		x, y := c.number(512), c.rough(17)
		for _, s := range signs() {
			got, e := s.do(x, y)
			ahead[[3]string{s.name, x, y}] = told{got, e}
		}
	}
	for _, s := range signs() {
		for key, want := range ahead {
			if key[0] != s.name {
				continue
			}
			if got, e := s.do(key[1], key[2]); got != want.s || e != want.e {
				t.Errorf("R5: %s(%s, %s) = %q, %d, and %q, %d ahead", key[0], key[1], key[2], got, e, want.s, want.e)
			}
		}
	}
}

func FuzzBig(f *testing.F) {
	for _, s := range [][2]string{{"-12", "12"}, {"-7", "2"}, {"", "-0"}, {"1" + strings.Repeat("0", 100), "999999999"}, {widest, wide}} {
		f.Add(s[0], s[1])
	}
	f.Fuzz(func(t *testing.T, a, b string) {
		for _, s := range []string{a, b} {
			x, ok := new(whole.Int).SetString(s, 10)
			if want := ok && len(s) <= 161 && x.String() == s && x.BitLen() <= api.MaxBits; big.Right(s) != want {
				t.Errorf("P9.1: Right(%q) = %v", s, !want)
			}
		}
		if big.Right(a) && big.Right(b) {
			hold(t, a, b)
			return
		}
		for _, s := range signs() {
			if got, e := s.do(a, b); got != "" || e != api.ErrArg {
				t.Errorf("P9.1: %s(%q, %q) = %q, %d", s.name, a, b, got, e)
			}
		}
	})
}
