package hash_test

import (
	"cmp"
	"fmt"
	"slices"
	"strings"
	"testing"

	"twinspan/api"
	"twinspan/hash"
)

// hashes are some, in the order of their texts.
func hashes() []api.Hash {
	var low, mid, high api.Hash
	for i := range low {
		mid[i], high[i] = byte(i+1), 0xff
	}
	l := []api.Hash{low, mid, high, want("abc"), want("")}
	for _, x := range []api.Hash{low, mid, high} {
		for _, i := range []int{0, 1, 15, 16, 30, 31} {
			for _, by := range []byte{1, 0x7f, 0x80, 0xff} {
				y := x
				y[i] ^= by
				l = append(l, y)
			}
		}
	}
	slices.SortFunc(l, func(a, b api.Hash) int {
		for i := range a {
			if a[i] != b[i] {
				return cmp.Compare(a[i], b[i])
			}
		}
		return 0
	})
	return slices.Compact(l)
}

// P2.2: Text tells the 32 bytes, From the hash whose text it is.
func TestTextFrom(t *testing.T) {
	for _, x := range hashes() {
		s := hash.Text(x)
		var l []byte
		for i := range x {
			l = append(l, x[i])
		}
		if s != string(l) {
			t.Errorf("Text of %x: %x", x, s)
		}
		got, e := hash.From(string(l))
		if got != x || e != api.OK {
			t.Errorf("From %x: %x, %v", l, got, e)
		}
	}
}

// P2.2: From tells ErrForm, and no hash, of all but 32 bytes.
func TestFromWrong(t *testing.T) {
	for _, n := range []int{0, 1, 16, 30, 31, 33, 34, 63, 64, 65, 96, 256 + 32, 1 << 16} {
		for _, s := range []string{text("ones", n), text("zeros", n), text("many", n)} {
			x, e := hash.From(s)
			if x != (api.Hash{}) || e != api.ErrForm {
				t.Errorf("From %d bytes: %x, %v", n, x, e)
			}
		}
	}
	// 32 signs that have more bytes are no hash; 16 of two bytes each are one.
	if x, e := hash.From(strings.Repeat("é", 32)); x != (api.Hash{}) || e != api.ErrForm {
		t.Errorf("From 32 signs of two bytes: %x, %v", x, e)
	}
	if x, e := hash.From(strings.Repeat("é", 16)); e != api.OK || hash.Text(x) != strings.Repeat("é", 16) {
		t.Errorf("From 16 signs of two bytes: %x, %v", x, e)
	}
}

// P2.2: Less compares byte by byte, the first one first, without signs.
func TestLess(t *testing.T) {
	l := hashes()
	for i, a := range l {
		for j, b := range l {
			if got := hash.Less(a, b); got != (i < j) {
				t.Errorf("Less of %x and %x: %v", a, b, got)
			}
		}
	}
}

// P2.2: Less of two that are the same, and of two that differ in one byte alone.
func TestLessByOneByte(t *testing.T) {
	for i := range len(api.Hash{}) {
		a := want(fmt.Sprint(i))
		b := a
		if hash.Less(a, b) {
			t.Errorf("%x is less than itself", a)
		}
		a[i], b[i] = 0x7f, 0x80
		if !hash.Less(a, b) || hash.Less(b, a) {
			t.Errorf("Less of two that differ in the byte %d: %v, %v", i, hash.Less(a, b), hash.Less(b, a))
		}
	}
	var a, b api.Hash
	a[0], b[0], a[31], b[31] = 1, 2, 0xff, 0
	if !hash.Less(a, b) || hash.Less(b, a) {
		t.Error("Less: the first byte doesn't go before the last one")
	}
}
