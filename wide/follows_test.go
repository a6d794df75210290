package wide_test

import (
	"fmt"
	"testing"

	"twinspan/api"
	"twinspan/wide"
)

// P4.4: two are the same sum both ways round.
func TestOrderOfTwo(t *testing.T) {
	l := numbers()
	for _, a := range l {
		for _, b := range l {
			x, ok := wide.Add(a, b)
			y, too := wide.Add(b, a)
			if x != y || ok != too {
				t.Errorf("%x and %x: %x, %v and %x, %v", a, b, x, ok, y, too)
			}
		}
	}
}

// orders hands on l in all its orders.
func orders(l []api.Wide, n int, told func([]api.Wide)) {
	if n == len(l) {
		told(l)
		return
	}
	for i := n; i < len(l); i++ {
		l[n], l[i] = l[i], l[n]
		orders(l, n+1, told)
		l[n], l[i] = l[i], l[n]
	}
}

// P4.4: sums are the same in whatever order: those that are a number, and those that are none.
func TestOrders(t *testing.T) {
	half := api.Wide{0, 0, 0, 1 << 63}
	d := drawn(40)
	for _, l := range [][]api.Wide{
		{wide.Of(1), wide.Of(2), wide.Of(3), wide.Of(4)},
		{wide.Of(1<<64 - 1), wide.Of(1), api.Wide{0, 1<<64 - 1}, wide.Of(9), api.Wide{0, 0, 1}},
		{half, wide.Of(1), half, wide.Of(2)},
		{half, half, half, half, wide.Of(1)},
		{wide.Most(), wide.Of(1), wide.Most(), wide.Of(1)},
		{wide.Most(), api.Wide{}, api.Wide{}, wide.Of(1)},
		d[0:5], d[8:13], d[20:25], {d[0], d[1], d[2], d[4], d[5]},
	} {
		want, ok := wide.Sum(l...)
		orders(append([]api.Wide{}, l...), 0, func(l []api.Wide) {
			got, told := wide.Sum(l...)
			isWide(t, fmt.Sprintf("Sum(%x)", l), got, want)
			isSaid(t, fmt.Sprintf("Sum(%x)", l), told, ok)
		})
	}
}

// P4.4: what was added is taken away again, either of the two.
func TestTakenAgain(t *testing.T) {
	for _, l := range [][]api.Wide{numbers(), drawn(120)} {
		for _, a := range l {
			for _, b := range l {
				sum, ok := wide.Add(a, b)
				if !ok {
					continue
				}
				x, first := wide.Sub(sum, b)
				y, second := wide.Sub(sum, a)
				if x != a || y != b || !first || !second {
					t.Errorf("%x and %x, added and taken again: %x, %v and %x, %v", a, b, x, first, y, second)
				}
			}
		}
	}
}

// P4.4: what was taken away is added again; what is less has no difference.
func TestAddedAgain(t *testing.T) {
	l := numbers()
	for _, a := range l {
		for _, b := range l {
			less, ok := wide.Sub(a, b)
			if ok != (wide.Compare(a, b) >= 0) {
				t.Errorf("Sub(%x, %x): %v", a, b, ok)
			}
			if !ok {
				continue
			}
			if again, ok := wide.Add(less, b); again != a || !ok {
				t.Errorf("%x, without %x and with it again: %x, %v", a, b, again, ok)
			}
		}
	}
}

// P4.4: a is its part times n, and the rest, which is less than n.
func TestPartAndRest(t *testing.T) {
	for _, a := range append(numbers(), drawn(200)...) {
		for _, n := range counts()[1:] {
			what := fmt.Sprintf("%x, parted by %x", a, n)
			part, rest := wide.Part(a, n)
			isSaid(t, what+", the rest is less", rest < n, true)
			again, ok := wide.Times(part, n)
			isSaid(t, what+", the product", ok, true)
			again, ok = wide.Add(again, wide.Of(rest))
			isSaid(t, what+", the sum", ok, true)
			isWide(t, what, again, a)
		}
	}
}

// P4.4: a number n times is the sum of n of it.
func TestTimesIsSum(t *testing.T) {
	for _, a := range append(numbers(), drawn(40)...) {
		var l []api.Wide
		for n := range uint64(9) {
			sum, ok := wide.Sum(l...)
			got, told := wide.Times(a, n)
			isWide(t, fmt.Sprintf("Times(%x, %d)", a, n), got, sum)
			isSaid(t, fmt.Sprintf("Times(%x, %d)", a, n), told, ok)
			l = append(l, a)
		}
	}
}

// P4.4, P4.3: bytes stand in the order of their numbers, and so do texts of one length.
func TestOrderOfBytes(t *testing.T) {
	for _, l := range [][]api.Wide{numbers(), drawn(120)} {
		for _, a := range l {
			for _, b := range l {
				isSaid(t, fmt.Sprintf("the bytes of %x and %x", a, b), wide.Bytes(a) < wide.Bytes(b), wide.Compare(a, b) < 0)
			}
		}
	}
}
