package big_test

import (
	"math"
	whole "math/big"
	"strconv"
	"strings"
	"testing"

	"demotic/api"
	"demotic/big"
)

// sign is what comes of two numbers: as the package has it, and as Go's own whole numbers have it.
type sign struct {
	name    string
	do      func(a, b string) (string, api.Errno)
	want    func(z, x, y *whole.Int) *whole.Int
	divides bool
}

// signs tells all of them.
func signs() []sign {
	return []sign{
		{"Sum", big.Sum, (*whole.Int).Add, false},
		{"Less", big.Less, (*whole.Int).Sub, false},
		{"Times", big.Times, (*whole.Int).Mul, false},
		{"Quotient", big.Quotient, (*whole.Int).Quo, true},
		{"Rest", big.Rest, (*whole.Int).Rem, true},
	}
}

// power tells 2 to the power of bits, and more.
func power(bits uint, more int64) string {
	z := new(whole.Int).Lsh(whole.NewInt(1), bits)
	return z.Add(z, whole.NewInt(more)).String()
}

var (
	widest = power(api.MaxBits, -1) // the greatest one that is not wide
	wide   = power(api.MaxBits, 0)
)

// noNumbers are no right ones.
func noNumbers() []string {
	return []string{
		"", "-", "--", "--1", "-0", "+0", "+1", "00", "01", "-01", "-00", "007", "000000000", "0000000001", "1-", "1-1", "- 1", " 1", "1 ", "1\n", "\t1",
		"1_0", "1,0", "1.0", "1.", ".5", "1e5", "0x1", "0x_1F", "0b1", "0o7", "1a", "a", "x", "NaN", "nil", "1/", "1:", "/", ":", "-/", "-:",
		"\u0661", "1\u0662", "\uff11", "-\u0661", "\u22121", "\x00", "1\x00", "\xff", "1\xff", "\ufeff1", "(1)", "1+1",
		wide, "-" + wide, power(api.MaxBits, 1), power(api.MaxBits+1, 0), power(api.MaxBits, 1_000_000_000),
		"1" + strings.Repeat("0", 155), strings.Repeat("9", 155), "-" + strings.Repeat("9", 155),
		strings.Repeat("9", 160), "-" + strings.Repeat("9", 160), strings.Repeat("1", 161), strings.Repeat("1", 200), strings.Repeat("1", 201),
		strings.Repeat("1", 1<<20), "-" + strings.Repeat("1", 1<<20), strings.Repeat("-", 1<<20), strings.Repeat("0", 155), "0" + widest,
	}
}

// numbers are right ones: small ones, and those where a digit, a word or what is not wide ends.
func numbers() []string {
	l := []string{"0", "9223372036854775808", widest, strings.Repeat("9", 154), "1" + strings.Repeat("0", 154)}
	for n := range 13 {
		l = append(l, strconv.Itoa(n))
	}
	for _, figures := range []int{8, 9, 10, 17, 18, 19, 27, 36, 77, 81, 153} {
		l = append(l, strings.Repeat("9", figures), "1"+strings.Repeat("0", figures), "1"+strings.Repeat("0", figures-1)+"1", "5"+strings.Repeat("0", figures-1), "4"+strings.Repeat("9", figures-1))
	}
	for _, bits := range []uint{30, 31, 32, 62, 63, 64, 127, 128, 255, 256, 257, 511} {
		l = append(l, power(bits, -1), power(bits, 0), power(bits, 1))
	}
	for _, s := range l {
		if s != "0" {
			l = append(l, "-"+s)
		}
	}
	return l
}

func of(t *testing.T, s string) *whole.Int {
	t.Helper()
	x, ok := new(whole.Int).SetString(s, 10)
	if !ok {
		t.Fatalf("no number: %q", s)
	}
	return x
}

// hold holds what comes of two right numbers against what Go's own ones tell.
func hold(t *testing.T, a, b string) {
	t.Helper()
	x, y := of(t, a), of(t, b)
	for _, s := range signs() {
		got, e := s.do(a, b)
		if s.divides && b == "0" {
			if got != "" || e != api.ErrArg {
				t.Errorf("P9.1: %s(%s, %s) = %q, %d: by 0", s.name, a, b, got, e)
			}
			continue
		}
		want := s.want(new(whole.Int), x, y)
		switch {
		case want.BitLen() > api.MaxBits && (got != "" || e != api.ErrBig):
			t.Errorf("P9.1: %s(%s, %s) = %q, %d: it is wide", s.name, a, b, got, e)
		case want.BitLen() <= api.MaxBits && (got != want.String() || e != api.OK):
			t.Errorf("P9.1: %s(%s, %s) = %q, %d, want %s", s.name, a, b, got, e, want)
		}
	}
	if got, want := big.Compare(a, b), x.Cmp(y); got != want {
		t.Errorf("P9.2: Compare(%s, %s) = %d, want %d", a, b, got, want)
	}
}

func TestRight(t *testing.T) {
	for _, s := range numbers() {
		if !big.Right(s) {
			t.Errorf("P9.1: Right(%q) = false", s)
		}
	}
	for _, s := range noNumbers() {
		if big.Right(s) {
			t.Errorf("P9.1: Right(%q) = true", s)
		}
	}
}

func TestRightOfEachByte(t *testing.T) {
	for c := range 256 {
		figure := '0' <= c && c <= '9'
		for s, want := range map[string]bool{
			string([]byte{byte(c)}):           figure,
			string([]byte{'1', byte(c)}):      figure,
			string([]byte{byte(c), '1'}):      figure && c != '0' || c == '-',
			string([]byte{'-', byte(c)}):      figure && c != '0',
			string([]byte{'-', '1', byte(c)}): figure,
		} {
			if got := big.Right(s); got != want {
				t.Errorf("P9.1: Right(%q) = %v", s, got)
			}
		}
	}
}

// TestWide: where the amount reaches 2^512, each number is wide; and none below.
func TestWide(t *testing.T) {
	for bits := range uint(530) {
		for more := range int64(3) {
			s := power(bits, more-1)
			want := of(t, s).BitLen() <= 512
			if got := big.Right(s); got != want {
				t.Errorf("P9.1: Right(2^%d + %d) = %v", bits, more-1, got)
			}
			if got := s != "0" && big.Right("-"+s); got != (want && s != "0") {
				t.Errorf("P9.1: Right(-(2^%d + %d)) = %v", bits, more-1, got)
			}
		}
	}
	for i := range widest { // each figure of it, one more and one less
		for _, c := range []byte{widest[i] - 1, widest[i] + 1} {
			if s := widest[:i] + string([]byte{c}) + widest[i+1:]; '0' <= c && c <= '9' && big.Right(s) != (c < widest[i] && s[0] != '0') {
				t.Errorf("P9.1: Right(%s) = %v", s, big.Right(s))
			}
		}
	}
}

func TestReckoned(t *testing.T) {
	for _, c := range []struct {
		name       string
		do         func(a, b string) (string, api.Errno)
		a, b, want string
		e          api.Errno
	}{
		{"Sum", big.Sum, "0", "0", "0", 0},
		{"Sum", big.Sum, "1", "-1", "0", 0},
		{"Sum", big.Sum, "-1", "1", "0", 0},
		{"Sum", big.Sum, "-1", "-1", "-2", 0},
		{"Sum", big.Sum, "999999999", "1", "1000000000", 0},
		{"Sum", big.Sum, "1000000000", "-1", "999999999", 0},
		{"Sum", big.Sum, "999999999999999999", "1", "1000000000000000000", 0},
		{"Sum", big.Sum, "-1000000000000000000", "1", "-999999999999999999", 0},
		{"Sum", big.Sum, "9223372036854775807", "1", "9223372036854775808", 0},
		{"Sum", big.Sum, "18446744073709551615", "1", "18446744073709551616", 0},
		{"Sum", big.Sum, widest, "0", widest, 0},
		{"Sum", big.Sum, widest, "-1", power(512, -2), 0},
		{"Sum", big.Sum, widest, "1", "", api.ErrBig},
		{"Sum", big.Sum, "1", widest, "", api.ErrBig},
		{"Sum", big.Sum, "-" + widest, "-1", "", api.ErrBig},
		{"Sum", big.Sum, widest, "-" + widest, "0", 0},
		{"Less", big.Less, "3", "5", "-2", 0},
		{"Less", big.Less, "5", "3", "2", 0},
		{"Less", big.Less, "0", "5", "-5", 0},
		{"Less", big.Less, "5", "0", "5", 0},
		{"Less", big.Less, "0", "0", "0", 0},
		{"Less", big.Less, "-3", "-3", "0", 0},
		{"Less", big.Less, "0", "-5", "5", 0},
		{"Less", big.Less, "1000000000", "1", "999999999", 0},
		{"Less", big.Less, widest, "-1", "", api.ErrBig},
		{"Less", big.Less, "-" + widest, "1", "", api.ErrBig},
		{"Less", big.Less, widest, widest, "0", 0},
		{"Times", big.Times, "-12", "12", "-144", 0},
		{"Times", big.Times, "-12", "-12", "144", 0},
		{"Times", big.Times, "0", "-12", "0", 0},
		{"Times", big.Times, "-12", "0", "0", 0},
		{"Times", big.Times, "999999999", "999999999", "999999998000000001", 0},
		{"Times", big.Times, "1000000000", "1000000000", "1000000000000000000", 0},
		{"Times", big.Times, power(256, 0), power(255, 0), power(511, 0), 0},
		{"Times", big.Times, power(256, 0), power(256, 0), "", api.ErrBig},
		{"Times", big.Times, power(256, 0), "-" + power(256, 0), "", api.ErrBig},
		{"Times", big.Times, power(256, 1), power(256, -1), widest, 0},
		{"Times", big.Times, widest, "-1", "-" + widest, 0},
		{"Times", big.Times, widest, widest, "", api.ErrBig},
		{"Quotient", big.Quotient, "7", "2", "3", 0},
		{"Quotient", big.Quotient, "-7", "2", "-3", 0},
		{"Quotient", big.Quotient, "7", "-2", "-3", 0},
		{"Quotient", big.Quotient, "-7", "-2", "3", 0},
		{"Quotient", big.Quotient, "-1", "2", "0", 0},
		{"Quotient", big.Quotient, "5", "-9", "0", 0},
		{"Quotient", big.Quotient, "0", "-9", "0", 0},
		{"Quotient", big.Quotient, "-6", "2", "-3", 0},
		{"Quotient", big.Quotient, "-9223372036854775808", "-1", "9223372036854775808", 0},
		{"Quotient", big.Quotient, widest, widest, "1", 0},
		{"Quotient", big.Quotient, widest, "-1", "-" + widest, 0},
		{"Quotient", big.Quotient, power(512, -2), widest, "0", 0},
		{"Quotient", big.Quotient, "1", "0", "", api.ErrArg},
		{"Quotient", big.Quotient, "0", "0", "", api.ErrArg},
		{"Rest", big.Rest, "7", "2", "1", 0},
		{"Rest", big.Rest, "-7", "2", "-1", 0},
		{"Rest", big.Rest, "7", "-2", "1", 0},
		{"Rest", big.Rest, "-7", "-2", "-1", 0},
		{"Rest", big.Rest, "-6", "2", "0", 0},
		{"Rest", big.Rest, "0", "-5", "0", 0},
		{"Rest", big.Rest, "-5", "9", "-5", 0},
		{"Rest", big.Rest, "-" + widest, widest, "0", 0},
		{"Rest", big.Rest, "1000000000000000000", "1000000000", "0", 0},
		{"Rest", big.Rest, "1", "0", "", api.ErrArg},
		{"Rest", big.Rest, "0", "0", "", api.ErrArg},
	} {
		if got, e := c.do(c.a, c.b); got != c.want || e != c.e {
			t.Errorf("P9.1: %s(%s, %s) = %q, %d, want %q, %d", c.name, c.a, c.b, got, e, c.want, c.e)
		}
	}
}

func TestNoNumbersAreReckoned(t *testing.T) {
	for _, s := range signs() {
		for _, no := range noNumbers() {
			for _, other := range []string{"0", "1", "-7", widest, no, "x", wide} {
				for _, pair := range [][2]string{{no, other}, {other, no}} {
					if got, e := s.do(pair[0], pair[1]); got != "" || e != api.ErrArg {
						t.Errorf("P9.1: %s(%.200q, %.200q) = %q, %d", s.name, pair[0], pair[1], got, e)
					}
				}
			}
		}
	}
}

func TestSmallNumbers(t *testing.T) {
	const most = 70
	for a := -most; a <= most; a++ {
		for b := -most; b <= most; b++ {
			hold(t, strconv.Itoa(a), strconv.Itoa(b))
		}
	}
}

func TestNumbersAtEdges(t *testing.T) {
	for _, a := range numbers() {
		for _, b := range numbers() {
			hold(t, a, b)
		}
	}
}

func TestCompare(t *testing.T) {
	for _, c := range []struct {
		a, b string
		want int
	}{
		{"0", "0", 0}, {"7", "7", 0}, {"-7", "-7", 0}, {"-3", "2", -1}, {"2", "-3", 1}, {"0", "-1", 1}, {"-1", "0", -1}, {"0", "1", -1},
		{"10", "9", 1}, {"-10", "-9", -1}, {"-9", "-10", 1}, {"9", "10", -1}, {"999999999", "1000000000", -1}, {"-999999999", "-1000000000", 1},
		{"2000000001", "1000000002", 1}, {"1000000002", "2000000001", -1}, {"1000000001", "1000000002", -1}, {"-1000000001", "-1000000002", 1},
		{widest, power(512, -2), 1}, {"-" + widest, widest, -1}, {"-" + widest, "-" + power(512, -2), -1}, {widest, widest, 0},
	} {
		if got := big.Compare(c.a, c.b); got != c.want {
			t.Errorf("P9.2: Compare(%s, %s) = %d, want %d", c.a, c.b, got, c.want)
		}
	}
	for _, no := range noNumbers() {
		for _, other := range []string{"0", "1", "-1", widest, "-" + widest, no, "x", wide} {
			if x, y := big.Compare(no, other), big.Compare(other, no); x != 0 || y != 0 {
				t.Errorf("P9.2: %.200q and %.200q are held: %d, %d", no, other, x, y)
			}
		}
	}
}

func TestInt(t *testing.T) {
	for _, n := range []int{0, 1, -1, 7, -12, 999999999, 1000000000, -1000000000, math.MaxInt32, math.MinInt32, 1 << 62, math.MaxInt, math.MinInt, math.MaxInt - 1, math.MinInt + 1} {
		if got, e := big.Int(strconv.Itoa(n)); got != n || e != api.OK {
			t.Errorf("P9.2: Int(%d) = %d, %d", n, got, e)
		}
	}
	for _, s := range []string{
		"9223372036854775808", "-9223372036854775809", "9223372036854775809", "10000000000000000000", "-10000000000000000000",
		"18446744073709551615", "18446744073709551616", "18446744073709551617", "-18446744073709551616", power(128, 0), widest, "-" + widest,
	} {
		if got, e := big.Int(s); got != 0 || e != api.ErrBig {
			t.Errorf("P9.2: Int(%s) = %d, %d", s, got, e)
		}
	}
	for _, s := range noNumbers() {
		if got, e := big.Int(s); got != 0 || e != api.ErrArg {
			t.Errorf("P9.2: Int(%.200q) = %d, %d", s, got, e)
		}
	}
	for _, s := range numbers() {
		x := of(t, s)
		got, e := big.Int(s)
		if x.IsInt64() != (e == api.OK) || x.IsInt64() && int64(got) != x.Int64() {
			t.Errorf("P9.2: Int(%s) = %d, %d", s, got, e)
		}
	}
}

func TestText(t *testing.T) {
	for n, want := range map[int]string{
		0: "0", 1: "1", -1: "-1", 10: "10", -10: "-10", 999999999: "999999999", 1000000000: "1000000000", -1000000001: "-1000000001",
		math.MaxInt: "9223372036854775807", math.MinInt: "-9223372036854775808", math.MinInt + 1: "-9223372036854775807",
	} {
		if got := big.Text(n); got != want {
			t.Errorf("P9.2: Text(%d) = %s", n, got)
		}
	}
	for n := -5000; n <= 5000; n++ {
		s := big.Text(n)
		if got, e := big.Int(s); got != n || e != api.OK || !big.Right(s) {
			t.Errorf("P9.2: Int(Text(%d)) = %d, %d", n, got, e)
		}
	}
}
