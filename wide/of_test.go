package wide_test

import (
	"fmt"
	"math"
	"math/big"
	"testing"

	"twinspan/api"
	"twinspan/wide"
)

// parts are those of which all carries and borrows are made.
func parts() []uint64 {
	return []uint64{0, 1, 1 << 63, math.MaxUint64}
}

// numbers are all whose four parts are of parts.
func numbers() []api.Wide {
	var l []api.Wide
	for _, a := range parts() {
		for _, b := range parts() {
			for _, c := range parts() {
				for _, d := range parts() {
					l = append(l, api.Wide{a, b, c, d})
				}
			}
		}
	}
	return l
}

// drawn are numbers without an order to be seen in them, the same ones each time, of all lengths.
func drawn(n int) []api.Wide {
	var l []api.Wide
	state := uint64(1)
	for i := range n {
		var a api.Wide
		for j := range 1 + i%len(a) {
			state = state*6364136223846793005 + 1442695040888963407
			a[j] = state ^ state>>29
		}
		l = append(l, a)
	}
	return l
}

// large is a as another program has it.
func large(a api.Wide) *big.Int {
	n := new(big.Int)
	for i := range a {
		n.Lsh(n, 64)
		n.Or(n, new(big.Int).SetUint64(a[len(a)-1-i]))
	}
	return n
}

// above is 2^256: the least of all that are no number.
func above() *big.Int {
	return new(big.Int).Lsh(big.NewInt(1), 256)
}

// isNumber tells whether n is one.
func isNumber(n *big.Int) bool {
	return n.Sign() >= 0 && n.Cmp(above()) < 0
}

// isWide tells what isn't the number that it should be.
func isWide(t *testing.T, what string, got, want api.Wide) {
	t.Helper()
	if got != want {
		t.Errorf("%s: %x, want %x", what, got, want)
	}
}

// isSaid tells what isn't said as it should be.
func isSaid[T comparable](t *testing.T, what string, got, want T) {
	t.Helper()
	if got != want {
		t.Errorf("%s: %v, want %v", what, got, want)
	}
}

// P4.1: Of is the number n: its least part, and nothing above it.
func TestOf(t *testing.T) {
	for _, n := range []uint64{0, 1, 2, 9, 10, 255, 256, math.MaxUint32, 1 << 32, 1<<63 - 1, 1 << 63, math.MaxUint64 - 1, math.MaxUint64} {
		isWide(t, fmt.Sprintf("Of(%d)", n), wide.Of(n), api.Wide{n, 0, 0, 0})
		isSaid(t, fmt.Sprintf("Of(%d), asked", n), large(wide.Of(n)).Cmp(new(big.Int).SetUint64(n)), 0)
	}
}

// P4.1: Most is 2^256 - 1: nothing is greater.
func TestMost(t *testing.T) {
	most := wide.Most()
	isWide(t, "Most", most, api.Wide{math.MaxUint64, math.MaxUint64, math.MaxUint64, math.MaxUint64})
	isSaid(t, "Most, and one more", new(big.Int).Add(large(most), big.NewInt(1)).Cmp(above()), 0)
	for _, a := range numbers() {
		isSaid(t, fmt.Sprintf("Compare(%x, Most) is above 0", a), wide.Compare(a, most) > 0, false)
	}
	most[0] = 7 // R3: what was told is its owner's
	isWide(t, "Most, asked again", wide.Most(), api.Wide{math.MaxUint64, math.MaxUint64, math.MaxUint64, math.MaxUint64})
}

// P4.1: Zero tells 0 alone, whichever part of another number isn't 0.
func TestZero(t *testing.T) {
	isSaid(t, "Zero of 0", wide.Zero(api.Wide{}), true)
	isSaid(t, "Zero of Of(0)", wide.Zero(wide.Of(0)), true)
	for _, a := range append(numbers(), drawn(100)...) {
		isSaid(t, fmt.Sprintf("Zero(%x)", a), wide.Zero(a), large(a).Sign() == 0)
	}
	for bit := range 256 {
		var a api.Wide
		a[bit/64] = 1 << (bit % 64)
		isSaid(t, fmt.Sprintf("Zero of 2^%d", bit), wide.Zero(a), false)
	}
}

// P4.1: Compare tells -1, 0, 1: a greater part decides, whatever stands below it.
func TestCompare(t *testing.T) {
	for _, x := range []struct {
		a, b api.Wide
		want int
	}{
		{api.Wide{}, api.Wide{}, 0},
		{api.Wide{1}, api.Wide{2}, -1},
		{api.Wide{2}, api.Wide{1}, 1},
		{api.Wide{9, 0, 0, 1}, api.Wide{0, 9, 9, 1}, -1},
		{api.Wide{9, 9, 9, 0}, api.Wide{0, 0, 0, 1}, -1},
		{api.Wide{0, 0, 1, 0}, api.Wide{9, 9, 0, 0}, 1},
		{api.Wide{0, 1}, api.Wide{math.MaxUint64}, 1},
		{api.Wide{1 << 63}, api.Wide{1}, 1}, // parts have no sign
		{api.Wide{0, 0, 0, 1 << 63}, api.Wide{0, 0, 0, 1}, 1},
		{wide.Most(), wide.Most(), 0},
	} {
		isSaid(t, fmt.Sprintf("Compare(%x, %x)", x.a, x.b), wide.Compare(x.a, x.b), x.want)
	}
}

// P4.1: Compare of all pairs.
func TestCompareAll(t *testing.T) {
	l := numbers()
	for _, a := range l {
		for _, b := range l {
			if got, want := wide.Compare(a, b), large(a).Cmp(large(b)); got != want {
				t.Errorf("Compare(%x, %x): %d, want %d", a, b, got, want)
			}
		}
	}
	l = drawn(120)
	for _, a := range l {
		for _, b := range l {
			isSaid(t, fmt.Sprintf("Compare(%x, %x)", a, b), wide.Compare(a, b), large(a).Cmp(large(b)))
		}
	}
}
