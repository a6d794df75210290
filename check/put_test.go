package check_test

import (
	"encoding/hex"
	"fmt"
	"hash/adler32"
	"strings"
	"testing"

	"twinspan/api"
	"twinspan/check"
)

// field is the field of that letter, of a body that is not too long.
func field(letter byte, body string) string {
	n := len(body)
	return string([]byte{letter, byte(n / 65536), byte(n / 256 % 256), byte(n % 256)}) + body
}

// number is n in as few bytes as it has, the greatest first.
func number(n uint64) string {
	s := ""
	for ; n > 0; n /= 256 {
		s = string([]byte{byte(n % 256)}) + s
	}
	return s
}

// record is the record of a body, made by the words of the chapter and the library's sum.
func record(body string) string {
	f := field('R', body)
	return f + field('S', number(uint64(adler32.Checksum([]byte(f)))))
}

// edges are parts of a sum: those that have 0, 1 and 2 bytes, and the greatest ones.
func edges() []uint32 {
	return []uint32{0, 1, 255, 256, 257, 65519, 65520}
}

// bodyOf is a body whose field R has the sum of these two parts.
func bodyOf(a, b uint32) string {
	const modulus = 65521
	// The first bytes make a, whatever the last ones are: of these two pairs, 256 bytes and 1 byte apart, each comes to 255.
	made := func(ahead, far, near uint32) string {
		first := strings.Repeat("\xff", int(ahead/255)) + string([]byte{byte(ahead % 255)})
		first += strings.Repeat("\x00", 258-len(first))
		last := string([]byte{byte(far)}) + strings.Repeat("\x00", 255) + string([]byte{byte(255 - far)})
		return first + last + string([]byte{byte(near), byte(255 - near)})
	}
	parts := func(body string) (uint32, uint32) {
		n := adler32.Checksum([]byte(field('R', body)))
		return n & 0xffff, n >> 16
	}
	haveA, _ := parts(made(0, 0, 0))
	ahead := (modulus + a - haveA) % modulus
	// A unit of a pair that stands as far earlier counts as often more.
	_, haveB := parts(made(ahead, 0, 0))
	more := (modulus + b - haveB) % modulus
	return made(ahead, more/256, more%256)
}

// isPut tells what isn't so of the record of a body.
func isPut(t *testing.T, what, body string) {
	t.Helper()
	got, e := check.Put(body)
	if want := record(body); got != want || e != api.OK {
		t.Errorf("Put of %s: %d bytes that begin with % x, %v; want %d bytes", what, len(got), got[:min(len(got), 40)], e, len(want))
	}
}

// P5.1: records, byte by byte.
func TestPut(t *testing.T) {
	for _, c := range []struct{ body, want string }{
		{"", "52000000" + "53000004014c0053"},
		{"a", "5200000161" + "53000004020200b5"},
		{"ab", "520000026162" + "53000004031c0118"},
	} {
		got, e := check.Put(c.body)
		if s := hex.EncodeToString([]byte(got)); s != c.want || e != api.OK {
			t.Errorf("Put of %q: %s, %v; want %s", c.body, s, e, c.want)
		}
	}
}

// P5.1: whatever the bytes of a body are, its record has them.
func TestPutBodies(t *testing.T) {
	for i := range 256 {
		isPut(t, fmt.Sprintf("the byte %02x", i), string([]byte{byte(i)}))
	}
	s := text(1 << 20)
	for n := range 600 {
		isPut(t, fmt.Sprintf("%d bytes", n), s[:n])
	}
	for _, n := range []int{65535, 65536, 65537, 1<<20 - 1, 1 << 20} {
		isPut(t, fmt.Sprintf("%d bytes", n), s[:n])
		isPut(t, fmt.Sprintf("%d bytes 0", n), strings.Repeat("\x00", n))
		isPut(t, fmt.Sprintf("%d bytes ff", n), strings.Repeat("\xff", n))
	}
	isPut(t, "a record", record("ab"))
}

// P5.1: the sum's field has as few bytes as its number has: 0 to 4.
func TestPutSums(t *testing.T) {
	for _, a := range edges() {
		for _, b := range edges() {
			body := bodyOf(a, b)
			isPut(t, fmt.Sprintf("a body made for %04x and %04x", b, a), body)
			want := field('S', number(uint64(b)<<16|uint64(a)))
			if got, _ := check.Put(body); !strings.HasSuffix(got, want) {
				t.Errorf("Put of a body made for %04x and %04x does not end with % x", b, a, want)
			}
		}
	}
}

// P5.1: a body that is too long has no record; one of just as many bytes as there may be has.
func TestPutTooLong(t *testing.T) {
	if got, e := check.Put(strings.Repeat("a", api.MaxRecord)); e != api.OK || len(got) != 4+1<<20+8 {
		t.Errorf("Put of 2^20 bytes: %d bytes, %v", len(got), e)
	}
	for _, n := range []int{1<<20 + 1, 1<<20 + 2, 1 << 21, 1<<24 - 1, 1 << 24, 1<<24 + 1, 1 << 26} {
		if got, e := check.Put(strings.Repeat("a", n)); got != "" || e != api.ErrSize {
			t.Errorf("Put of %d bytes: %d bytes, %v", n, len(got), e)
		}
	}
}
