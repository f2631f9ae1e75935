package big

import (
	"slices"
	"testing"
)

// TestRowsDoNotGrowIntoOthers: what is put behind a row that was cut stands in other memory.
func TestRowsDoNotGrowIntoOthers(t *testing.T) {
	whole := row{1, 2, 0, 0}
	short := whole.cut()
	long := append(short, 7)
	if !slices.Equal(short, row{1, 2}) || !slices.Equal(long, row{1, 2, 7}) || !slices.Equal(whole, row{1, 2, 0, 0}) {
		t.Errorf("Ways 9: %v, %v of %v", short, long, whole)
	}
}

// TestAmountsStay: what is reckoned with amounts leaves them as they were.
func TestAmountsStay(t *testing.T) {
	amounts := func() (row, row) { return row{3, base - 1, base / 2, 1}, row{base - 1, base / 2} }
	a, b := amounts()
	for _, reckon := range []func(a, b row) row{plus, minus, times, over} {
		reckon(a, b)
		if x, y := amounts(); !slices.Equal(a, x) || !slices.Equal(b, y) {
			t.Fatalf("P9.1: %v, %v", a, b)
		}
	}
}
