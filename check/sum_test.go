package check_test

import (
	"fmt"
	"hash/adler32"
	"strings"
	"testing"

	"twinspan/check"
)

// isSum holds a text's sum against the one that is wanted, and against the library's.
func isSum(t *testing.T, what, s string, want uint32) {
	t.Helper()
	if got := check.Sum(s); got != want {
		t.Errorf("Sum of %s: %08x, want %08x", what, got, want)
	}
	if other := adler32.Checksum([]byte(s)); other != want {
		t.Errorf("the library's sum of %s: %08x, want %08x", what, other, want)
	}
}

// isLibrary holds a text's sum against the library's.
func isLibrary(t *testing.T, what, s string) {
	t.Helper()
	isSum(t, what, s, adler32.Checksum([]byte(s)))
}

// text is n bytes that are unlike, the same ones each time.
func text(n int) string {
	b := make([]byte, n)
	x := uint32(7)
	for i := range b {
		x = x*1664525 + 1013904223
		b[i] = byte(x >> 24)
	}
	return string(b)
}

// P5.1: sums that are known, the chapter's examples among them.
func TestSumsKnown(t *testing.T) {
	isSum(t, "nothing", "", 1)
	isSum(t, "Wikipedia", "Wikipedia", 0x11e60398)
	isSum(t, "a", "a", 0x00620062)
	isSum(t, "abc", "abc", 0x024d0127)
	isSum(t, "cba", "cba", 0x02510127)
	isSum(t, "the letters", "abcdefghijklmnopqrstuvwxyz", 0x90860b20)
	isSum(t, "6000 bytes ff", strings.Repeat("\xff", 6000), 0xa49759ea)
}

// P5.1: of one byte both parts are 1 and the byte.
func TestSumOfOne(t *testing.T) {
	for i := range 256 {
		isSum(t, fmt.Sprintf("the byte %02x", i), string([]byte{byte(i)}), uint32(1+i)*65537)
	}
}

// lengths are numbers of bytes: around those at which parts go round, and those at which bits end.
func lengths() []int {
	l := []int{3, 100, 1000, 1 << 20, 65521*100 + 7, 1<<24 + 3}
	for _, n := range []int{256, 257, 360, 361, 5552, 65521, 65536, 2 * 65521} {
		l = append(l, n-1, n, n+1)
	}
	return l
}

// P5.1: of bytes 0 the first part stays 1, and the second one counts them modulo 65521.
func TestSumOfZeros(t *testing.T) {
	for _, n := range lengths() {
		isSum(t, fmt.Sprintf("%d bytes 0", n), strings.Repeat("\x00", n), uint32(n%65521)<<16|1)
	}
}

// P5.1: of bytes ff both parts are those of a sum of numbers, and of a sum of these sums, modulo 65521.
func TestSumOfMany(t *testing.T) {
	for _, n := range lengths() {
		a := 1 + 255*n
		b := n + 255*(n*(n+1)/2)
		isSum(t, fmt.Sprintf("%d bytes ff", n), strings.Repeat("\xff", n), uint32(b%65521)<<16|uint32(a%65521))
	}
}

// P5.1: a text of unlike bytes, of any length, has the sum that the library tells.
func TestSumOfText(t *testing.T) {
	s := text(1<<24 + 3)
	for n := range 2000 {
		isLibrary(t, fmt.Sprintf("%d bytes", n), s[:n])
	}
	for _, n := range lengths() {
		isLibrary(t, fmt.Sprintf("%d bytes", n), s[:n])
		isLibrary(t, fmt.Sprintf("the last %d bytes", n), s[len(s)-n:])
	}
}

// P5.1: a part of 65521 is 0: both parts reach 65520, 0 and 1.
func TestSumRound(t *testing.T) {
	first := strings.Repeat("\xff", 256) // the first part is 65281 behind it
	for _, c := range []struct {
		last byte
		a    uint32
	}{{0xee, 65519}, {0xef, 65520}, {0xf0, 0}, {0xf1, 1}, {0xff, 15}} {
		s := first + string([]byte{c.last})
		isLibrary(t, fmt.Sprintf("256 bytes ff, and %02x", c.last), s)
		if a := check.Sum(s) & 0xffff; a != c.a {
			t.Errorf("the first part of 256 bytes ff, and %02x: %d, want %d", c.last, a, c.a)
		}
	}
	for _, a := range edges() {
		for _, b := range edges() {
			s := field('R', bodyOf(a, b))
			isSum(t, fmt.Sprintf("a field made for %04x and %04x", b, a), s, b<<16|a)
		}
	}
}

// R4: the sum of a text is the same each time, whatever was summed between.
func TestSumAgain(t *testing.T) {
	s := text(3000)
	want := check.Sum(s)
	for n := range len(s) {
		check.Sum(s[n:])
		if got := check.Sum(s); got != want {
			t.Fatalf("Sum behind that of %d bytes: %08x, want %08x", len(s)-n, got, want)
		}
	}
}
