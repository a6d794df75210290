package tlv_test

import (
	"fmt"
	"math"
	"slices"
	"strings"
	"testing"

	"twinspan/tlv"
)

// numbers are those at which a byte more is needed, and those beside them.
func numbers() []uint64 {
	l := []uint64{0, 1, 2, 300, math.MaxUint64 - 1, math.MaxUint64}
	for bits := 7; bits < 64; bits++ {
		n := uint64(1) << bits
		l = append(l, n-1, n, n+1)
	}
	slices.Sort(l)
	return slices.Compact(l)
}

// texts are such as could be taken for fields, or for parts of them.
func texts() []string {
	l := []string{"", "a", "ab", "b", "\x00", "\x00\x00", "\x00\x00\x00\x00", "\xff", "x\x00\x00\x00", "x\x00\x00\x01", "x\x00\x00\x01a"}
	for _, n := range []int{255, 256, 257, 1<<16 - 1, 1 << 16} {
		l = append(l, strings.Repeat("x", n))
	}
	return l
}

// lists are such as have the same bytes when they are put one behind the other.
func lists() [][]string {
	return [][]string{
		nil, {""}, {"", ""}, {"", "", ""}, {"a"}, {"a", ""}, {"", "a"}, {"ab"}, {"a", "b"}, {"b", "a"}, {"a", "b", ""},
		{"x\x00\x00\x00"}, {"x\x00\x00\x01a"}, {tlv.All('x', "a", "b")}, {tlv.All('x', "a"), "b"}, texts(),
	}
}

// P1.3: what was written is read again, one behind the other.
func TestReadAgain(t *testing.T) {
	var s strings.Builder
	for _, n := range numbers() {
		s.WriteString(tlv.Num('x', n) + tlv.Int('x', int(n)))
	}
	for _, x := range texts() {
		s.WriteString(tlv.Text('x', x))
	}
	for _, l := range lists() {
		s.WriteString(tlv.All('x', l...))
	}
	r := tlv.Read(s.String())
	for _, n := range numbers() {
		if got := r.Num('x'); got != n {
			t.Fatalf("Num: %d, want %d", got, n)
		}
		if got, want := r.Int('x', math.MaxInt), max(int(n), 0); got != want {
			t.Fatalf("Int: %d, want %d", got, want)
		}
	}
	for _, x := range texts() {
		if got := r.Text('x', len(x)); got != x {
			t.Fatalf("Text: %q, want %q", got, x)
		}
	}
	for _, l := range lists() {
		if got := r.All('x', len(l), 1<<16); !slices.Equal(got, l) {
			t.Fatalf("All: %q, want %q", got, l)
		}
	}
	isDone(t, "all that was written", r)
}

// P1.3: each letter is told, and read again.
func TestLetters(t *testing.T) {
	for letter := range 256 {
		x := byte(letter)
		r := tlv.Read(tlv.Num(x, 1) + tlv.Int(x, 2) + tlv.Text(x, "t") + tlv.All(x, "l"))
		got, more := r.Next()
		told := fmt.Sprint(got, more, r.Num(x), r.Int(x, 2), r.Text(x, 1), r.All(x, 1, 1))
		if want := fmt.Sprint(x, true, 1, 2, "t", []string{"l"}); told != want {
			t.Errorf("the letter %d: %s, want %s", letter, told, want)
		}
		isDone(t, "the letter", r)
	}
}

// P1.3: no two have the same bytes, or bytes that begin another one's.
func TestApart(t *testing.T) {
	var nums, fields, all []string
	for _, letter := range []byte{0, 'x', 'y', 0xff} {
		for _, n := range numbers() {
			nums = append(nums, tlv.Num(letter, n))
		}
		for _, x := range texts() {
			fields = append(fields, tlv.Text(letter, x))
		}
		for _, l := range lists() {
			all = append(all, tlv.All(letter, l...))
		}
	}
	for _, l := range [][]string{nums, fields, all} {
		for i, a := range l {
			for j, b := range l {
				if i != j && strings.HasPrefix(b, a) {
					t.Fatalf("one of %d bytes begins another one, of %d", len(a), len(b))
				}
			}
		}
	}
}
