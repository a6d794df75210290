package wide_test

import (
	"fmt"
	"math"
	"math/big"
	"testing"

	"twinspan/api"
	"twinspan/wide"
)

// isCounted tells where a sum is not want; or, where want is no number, isn't 0 and false.
func isCounted(t *testing.T, what string, got api.Wide, ok bool, want *big.Int) {
	t.Helper()
	if ok != isNumber(want) {
		t.Errorf("%s: %v, want %v", what, ok, isNumber(want))
	}
	if !isNumber(want) {
		want = new(big.Int)
	}
	if large(got).Cmp(want) != 0 {
		t.Errorf("%s: %x, want %x", what, got, want)
	}
}

// added, taken, times and summed ask a call, and hold what it answers against another program's.
func added(t *testing.T, a, b api.Wide) {
	t.Helper()
	got, ok := wide.Add(a, b)
	isCounted(t, fmt.Sprintf("Add(%x, %x)", a, b), got, ok, new(big.Int).Add(large(a), large(b)))
}

func taken(t *testing.T, a, b api.Wide) {
	t.Helper()
	got, ok := wide.Sub(a, b)
	isCounted(t, fmt.Sprintf("Sub(%x, %x)", a, b), got, ok, new(big.Int).Sub(large(a), large(b)))
}

func times(t *testing.T, a api.Wide, n uint64) {
	t.Helper()
	got, ok := wide.Times(a, n)
	isCounted(t, fmt.Sprintf("Times(%x, %x)", a, n), got, ok, new(big.Int).Mul(large(a), new(big.Int).SetUint64(n)))
}

func summed(t *testing.T, l ...api.Wide) {
	t.Helper()
	want := new(big.Int)
	for _, a := range l {
		want.Add(want, large(a))
	}
	got, ok := wide.Sum(l...)
	isCounted(t, fmt.Sprintf("Sum(%x)", l), got, ok, want)
}

// all is one part four times.
func all(n uint64) api.Wide {
	return api.Wide{n, n, n, n}
}

// P4.2: the chapter's examples, and sums at the edges: just a number, just none, a carry through one part and through several.
func TestEdges(t *testing.T) {
	const most = math.MaxUint64
	for _, x := range []struct {
		what    string
		a, b    api.Wide
		sum     api.Wide
		added   bool
		less    api.Wide
		takenOf bool
	}{
		{"1 and 2", wide.Of(1), wide.Of(2), wide.Of(3), true, api.Wide{}, false},
		{"2 and 1", wide.Of(2), wide.Of(1), wide.Of(3), true, wide.Of(1), true},
		{"Most and 1", wide.Most(), wide.Of(1), api.Wide{}, false, api.Wide{most - 1, most, most, most}, true},
		{"1 and Most", wide.Of(1), wide.Most(), api.Wide{}, false, api.Wide{}, false},
		{"Most and 0", wide.Most(), wide.Of(0), wide.Most(), true, wide.Most(), true},
		{"0 and Most", wide.Of(0), wide.Most(), wide.Most(), true, api.Wide{}, false},
		{"Most and Most", wide.Most(), wide.Most(), api.Wide{}, false, api.Wide{}, true},
		{"0 and 0", wide.Of(0), wide.Of(0), api.Wide{}, true, api.Wide{}, true},
		{"Most less one, and 1", api.Wide{most - 1, most, most, most}, wide.Of(1), wide.Most(), true, api.Wide{most - 2, most, most, most}, true},
		{"2^64 - 1 and 1", wide.Of(most), wide.Of(1), api.Wide{0, 1}, true, wide.Of(most - 1), true},
		{"2^64 and 1", api.Wide{0, 1}, wide.Of(1), api.Wide{1, 1}, true, wide.Of(most), true},
		{"2^128 and 1", api.Wide{0, 0, 1}, wide.Of(1), api.Wide{1, 0, 1}, true, api.Wide{most, most}, true},
		{"2^192 and 1", api.Wide{0, 0, 0, 1}, wide.Of(1), api.Wide{1, 0, 0, 1}, true, api.Wide{most, most, most}, true},
		{"2^192 - 1 and 1", api.Wide{most, most, most}, wide.Of(1), api.Wide{0, 0, 0, 1}, true, api.Wide{most - 1, most, most}, true},
		{"2^255 twice", api.Wide{0, 0, 0, 1 << 63}, api.Wide{0, 0, 0, 1 << 63}, api.Wide{}, false, api.Wide{}, true},
		{"2^255 - 1 and 2^255", api.Wide{most, most, most, 1<<63 - 1}, api.Wide{0, 0, 0, 1 << 63}, wide.Most(), true, api.Wide{}, false},
	} {
		got, ok := wide.Add(x.a, x.b)
		isWide(t, x.what+", added", got, x.sum)
		isSaid(t, x.what+", added", ok, x.added)
		got, ok = wide.Sub(x.a, x.b)
		isWide(t, x.what+", taken away", got, x.less)
		isSaid(t, x.what+", taken away", ok, x.takenOf)
	}
}

// P4.2: Add and Sub of all pairs: every carry and borrow, through one part, through several, and out at the end.
func TestAddSub(t *testing.T) {
	for _, l := range [][]api.Wide{numbers(), drawn(120)} {
		for _, a := range l {
			for _, b := range l {
				added(t, a, b)
				taken(t, a, b)
			}
		}
	}
}

// P4.2: a sum that is 2^256 - 1 is a number; with one more it is none.
func TestJustMost(t *testing.T) {
	for _, a := range append(numbers(), drawn(100)...) {
		rest, ok := wide.Sub(wide.Most(), a)
		isSaid(t, fmt.Sprintf("Sub(Most, %x)", a), ok, true)
		got, ok := wide.Add(a, rest)
		isWide(t, fmt.Sprintf("%x, and what lacks till Most", a), got, wide.Most())
		isSaid(t, fmt.Sprintf("%x, and what lacks till Most", a), ok, true)
		got, ok = wide.Sum(a, rest, wide.Of(1))
		isWide(t, fmt.Sprintf("%x, what lacks till Most, and 1", a), got, api.Wide{})
		isSaid(t, fmt.Sprintf("%x, what lacks till Most, and 1", a), ok, false)
	}
}

// counts are by what numbers are counted and parted.
func counts() []uint64 {
	return []uint64{0, 1, 2, 3, 5, 7, 10, 255, 1 << 32, 1<<32 + 1, 1<<63 - 1, 1 << 63, 1<<63 + 1, math.MaxUint64 - 1, math.MaxUint64}
}

// P4.2: Times, by 0, 1, 2^64 - 1 and others.
func TestTimes(t *testing.T) {
	for _, a := range append(numbers(), drawn(200)...) {
		for _, n := range counts() {
			times(t, a, n)
		}
	}
}

// P4.2: a product that is 2^256 - 1, or just below 2^256, is a number; the next one is none.
func TestTimesEdges(t *testing.T) {
	const most = math.MaxUint64
	for _, x := range []struct {
		what string
		a    api.Wide
		n    uint64
		want api.Wide
		ok   bool
	}{
		{"Most, once", wide.Most(), 1, wide.Most(), true},
		{"Most, twice", wide.Most(), 2, api.Wide{}, false},
		{"Most, not at all", wide.Most(), 0, api.Wide{}, true},
		{"0, most often", api.Wide{}, most, api.Wide{}, true},
		{"1 of each part, 2^64 - 1 times", all(1), most, wide.Most(), true},
		{"one more, 2^64 - 1 times", api.Wide{2, 1, 1, 1}, most, api.Wide{}, false},
		{"a fifth of Most", all(most / 5), 5, wide.Most(), true},
		{"2^255, once", api.Wide{0, 0, 0, 1 << 63}, 1, api.Wide{0, 0, 0, 1 << 63}, true},
		{"2^255, twice", api.Wide{0, 0, 0, 1 << 63}, 2, api.Wide{}, false},
		{"2^255 - 1, twice", api.Wide{most, most, most, 1<<63 - 1}, 2, api.Wide{most - 1, most, most, most}, true},
		{"2^192, 2^64 - 1 times", api.Wide{0, 0, 0, 1}, most, api.Wide{0, 0, 0, most}, true},
		{"2^193, 2^63 times", api.Wide{0, 0, 0, 2}, 1 << 63, api.Wide{}, false},
		{"2^64 - 1, squared", wide.Of(most), most, api.Wide{1, most - 1}, true},
	} {
		got, ok := wide.Times(x.a, x.n)
		isWide(t, x.what, got, x.want)
		isSaid(t, x.what, ok, x.ok)
	}
}

// P4.2: a and n are just a number, where n is as great as it may be; not with one more.
func TestTimesJust(t *testing.T) {
	for _, n := range counts()[2:] {
		a, rest := wide.Part(wide.Most(), n)
		what := fmt.Sprintf("Most's part, %d times", n)
		got, ok := wide.Times(a, n)
		isSaid(t, what, ok, true)
		got, _ = wide.Add(got, wide.Of(rest))
		isWide(t, what+", and the rest", got, wide.Most())
		next, _ := wide.Add(a, wide.Of(1))
		got, ok = wide.Times(next, n)
		isWide(t, what+", with one more", got, api.Wide{})
		isSaid(t, what+", with one more", ok, false)
	}
}

// P4.2: Sum of none is 0, of one is that one.
func TestSumOfFew(t *testing.T) {
	for what, l := range map[string][]api.Wide{"nil": nil, "none": {}} {
		got, ok := wide.Sum(l...)
		isWide(t, "Sum of "+what, got, api.Wide{})
		isSaid(t, "Sum of "+what, ok, true)
	}
	got, ok := wide.Sum()
	isWide(t, "Sum()", got, api.Wide{})
	isSaid(t, "Sum()", ok, true)
	for _, a := range numbers() {
		summed(t, a)
		summed(t, api.Wide{}, a, api.Wide{})
	}
}

// P4.2: Sum of several; one of which a part is too great is none, wherever that part stands and whatever comes behind it.
func TestSum(t *testing.T) {
	half := api.Wide{0, 0, 0, 1 << 63}
	one := wide.Of(1)
	for _, l := range [][]api.Wide{
		{one, one, one},
		{half, one},
		{half, half},
		{half, half, api.Wide{}},
		{half, half, one},
		{half, half, half, half},
		{half, half, wide.Most()},
		{half, half, wide.Most(), one}, // with all its carries gone it would be a number
		{wide.Most(), one},
		{one, wide.Most()},
		{wide.Most(), one, one},
		{wide.Most(), wide.Most(), api.Wide{2}},
		{api.Wide{}, wide.Most()},
		{wide.Of(math.MaxUint64), one, wide.Of(math.MaxUint64), one},
	} {
		summed(t, l...)
	}
	l := drawn(90)
	for i := range l {
		summed(t, l[:i]...)
		for j := range 8 {
			summed(t, l[i], l[(i+j)%len(l)], l[(i*7+j)%len(l)])
		}
	}
	for i := range 300 { // of so many of 2^248 the sum is a number till 255 of them
		var l []api.Wide
		for range i {
			l = append(l, api.Wide{0, 0, 0, 1 << 56})
		}
		summed(t, l...)
	}
}

// P4.2, R5: Sum of very many.
func TestSumOfMany(t *testing.T) {
	l := make([]api.Wide, 1<<20)
	for i := range l {
		l[i] = wide.Of(math.MaxUint64)
	}
	got, ok := wide.Sum(l...)
	isWide(t, "Sum of 2^20", got, api.Wide{1<<64 - 1<<20, 1<<20 - 1})
	isSaid(t, "Sum of 2^20", ok, true)
	l[0] = wide.Most()
	got, ok = wide.Sum(l...)
	isWide(t, "Sum of 2^20, too great", got, api.Wide{})
	isSaid(t, "Sum of 2^20, too great", ok, false)
}

// P4.2: Part tells what another program tells; of n 0: 0, 0.
func TestPart(t *testing.T) {
	for _, a := range append(numbers(), drawn(200)...) {
		for _, n := range counts() {
			what := fmt.Sprintf("Part(%x, %x)", a, n)
			part, rest := wide.Part(a, n)
			if n == 0 {
				isWide(t, what, part, api.Wide{})
				isSaid(t, what, rest, 0)
				continue
			}
			wantPart, wantRest := new(big.Int).DivMod(large(a), new(big.Int).SetUint64(n), new(big.Int))
			isSaid(t, what+", the part", large(part).Cmp(wantPart), 0)
			isSaid(t, what+", the rest", rest, wantRest.Uint64())
		}
	}
}

// R3: what is handed in stays as it is.
func TestSumsLeaveArguments(t *testing.T) {
	l := []api.Wide{wide.Of(1), wide.Of(2), wide.Most()}
	wide.Sum(l[:2]...)
	wide.Sum(l...)
	a, b := wide.Most(), wide.Of(3)
	wide.Add(a, b)
	wide.Sub(a, b)
	wide.Times(a, 3)
	wide.Part(a, 3)
	wide.Compare(a, b)
	wide.Text(a)
	wide.Bytes(a)
	for i, want := range []api.Wide{wide.Of(1), wide.Of(2), wide.Most()} {
		isWide(t, fmt.Sprintf("what was handed in, %d", i), l[i], want)
	}
	isWide(t, "what was handed in, a", a, wide.Most())
	isWide(t, "what was handed in, b", b, wide.Of(3))
}

// R4: the same calls have the same answers, whatever was asked between.
func TestSumsAgain(t *testing.T) {
	l := numbers()
	var first []string
	for range 2 {
		var now []string
		for i, a := range l {
			b := l[(i*31+5)%len(l)]
			s, x := wide.Add(a, b)
			d, y := wide.Sub(a, b)
			m, z := wide.Times(a, b[0])
			p, r := wide.Part(a, b[0])
			u, v := wide.Sum(a, b, a)
			now = append(now, fmt.Sprint(s, x, d, y, m, z, p, r, u, v))
		}
		if first == nil {
			first = now
		}
		for i := range now {
			isSaid(t, fmt.Sprintf("%x, asked again", l[i]), now[i], first[i])
		}
	}
}
