package big

import (
	"cmp"
	"slices"
	"strconv"
	"strings"
)

const (
	noughts = "000000000" // as many as there are figures in a digit
	base    = 1_000_000_000
)

// row is an amount: its digits in that base, the lowest one first, the highest one not 0, none for 0.
type row []uint64

// amount tells what plain figures are.
func amount(figures string) row {
	r := make(row, (len(figures)+len(noughts)-1)/len(noughts))
	for at, figure := range figures {
		place := (len(figures) - 1 - at) / len(noughts)
		r[place] = r[place]*10 + uint64(figure-'0')
	}
	return r.cut()
}

// text tells an amount's figures.
func (r row) text() string {
	if len(r) == 0 {
		return "0"
	}
	var b strings.Builder
	for i := range len(r) {
		figures := strconv.FormatUint(r[len(r)-1-i], 10)
		if i > 0 {
			b.WriteString(noughts[len(figures):])
		}
		b.WriteString(figures)
	}
	return b.String()
}

// cut leaves out the digits 0 at the high end; what grows out of it does not grow into them.
func (r row) cut() row {
	n := len(r)
	for n > 0 && r[n-1] == 0 {
		n--
	}
	return r[:n:n]
}

// at tells the digit of a place, 0 above the highest one.
func (r row) at(place int) uint64 {
	if place < len(r) {
		return r[place]
	}
	return 0
}

// take makes the digits of a row less by an amount that is not greater.
func (r row) take(less row) {
	lent := uint64(0)
	for place := range len(r) {
		digit := base + r[place] - less.at(place) - lent
		r[place], lent = digit%base, 1-digit/base
	}
}

// compare holds two amounts against one another.
func compare(a, b row) int {
	order := cmp.Compare(len(a), len(b))
	for place := len(a) - 1; order == 0 && place >= 0; place-- {
		order = cmp.Compare(a[place], b[place])
	}
	return order
}

// plus tells the sum of two amounts.
func plus(a, b row) row {
	r := make(row, max(len(a), len(b))+1)
	carry := uint64(0)
	for place := range len(r) {
		digit := a.at(place) + b.at(place) + carry
		r[place], carry = digit%base, digit/base
	}
	return r.cut()
}

// minus tells how much a is above b, which is not greater.
func minus(a, b row) row {
	r := slices.Clone(a)
	r.take(b)
	return r.cut()
}

// times tells the product of two amounts.
func times(a, b row) row {
	r := make(row, len(a)+len(b))
	for low := range len(a) {
		carry := uint64(0)
		for place := range len(b) {
			digit := r[low+place] + a[low]*b[place] + carry
			r[low+place], carry = digit%base, digit/base
		}
		r[low+len(b)] = carry
	}
	return r.cut()
}

// over tells how many times b, which is not 0, goes into a.
func over(a, b row) row {
	scale := row{base / (b[len(b)-1] + 1)} // with it b's highest digit is about half of base or more: guesses are good
	b = times(b, scale)
	rest := append(times(a, scale), 0) // a guess looks at one digit more than b has
	r := make(row, max(0, len(rest)-len(b)))
	for i := range len(r) {
		low := len(r) - 1 - i
		above := low + len(b) + 1
		part := rest[low:above:above]
		r[low] = goes(part, b)
		part.take(times(b, row{r[low]}))
	}
	return r.cut()
}

// goes tells how many times b goes into the digits of a part, which are one more than b's: fewer times than base.
func goes(part, b row) uint64 {
	n := len(b)
	guess := min((part[n]*base+part[n-1])/b[n-1], base-1) // never too small, at most 2 too great
	for compare(times(b, row{guess}), part.cut()) > 0 {
		guess--
	}
	return guess
}
