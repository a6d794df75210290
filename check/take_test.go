package check_test

import (
	"fmt"
	"hash/adler32"
	"slices"
	"strings"
	"testing"

	"twinspan/api"
	"twinspan/check"
)

// isTaken tells what isn't so of the body with whose record s should begin.
func isTaken(t *testing.T, what, s, body string) {
	t.Helper()
	got, n, e := check.Take(s)
	if want := len(record(body)); got != body || n != want || e != api.OK {
		t.Errorf("Take of %s: a body of %d bytes, %d, %v; want %d bytes, %d", what, len(got), n, e, len(body), want)
	}
}

// isNone tells what isn't so, if s should begin with no record.
func isNone(t *testing.T, what, s string) {
	t.Helper()
	if body, n, e := check.Take(s); body != "" || n != 0 || e != api.ErrForm {
		t.Errorf("Take of %s: a body of %d bytes, %d, %v", what, len(body), n, e)
	}
	if l, n := check.All(s); len(l) != 0 || n != 0 {
		t.Errorf("All of %s: %d bodies, %d", what, len(l), n)
	}
}

// bodies are such as records are made of.
func bodies() []string {
	return []string{
		"", "a", "ab", "\x00", "\xff", "\x00\x00\x00", "R", "S", "R\x00\x00\x00", record("")[:4], record(""), record("ab"), record("ab") + record("c"),
		text(255), text(256), text(3000), bodyOf(0, 0), bodyOf(1, 0), bodyOf(0, 1), bodyOf(255, 0), bodyOf(256, 0), bodyOf(0, 255), bodyOf(65520, 65520),
	}
}

// behinds are texts that may stand behind a record.
func behinds() []string {
	return []string{"", "z", "\x00", "\xff\xff", "R", "S", record("")[:4], record("x")[:5], record("x"), record("") + record("y"), field('S', ""), field('S', "\x01"), text(100)}
}

// P5.2: a record is taken, alone and with anything behind it, and nothing of that counts.
func TestTake(t *testing.T) {
	for i, body := range bodies() {
		for j, behind := range behinds() {
			isTaken(t, fmt.Sprintf("the record of body %d, and text %d behind", i, j), record(body)+behind, body)
		}
	}
	isTaken(t, "the record of ab", "R\x00\x00\x02abS\x00\x00\x04\x03\x1c\x01\x18", "ab")
}

// P5.2: long records; no text is too long to be looked at.
func TestTakeLong(t *testing.T) {
	for _, n := range []int{65535, 65536, 1<<20 - 1, 1 << 20} {
		isTaken(t, fmt.Sprintf("the record of %d bytes", n), record(text(n)), text(n))
	}
	isTaken(t, "a record, and 2^26 bytes behind", record("ab")+strings.Repeat("z", 1<<26), "ab")
	isTaken(t, "a record, and a broken one of 2^24 bytes behind", record("ab")+field('R', text(1<<24-1)), "ab")
	for _, s := range []string{"\x00", "R", "S", "\xff", "R\x00\x00\x00", "R\x00\x00\x01", "S\x00\x00\x00", record("")[1:]} {
		isNone(t, fmt.Sprintf("% x, 2^22 times", s), strings.Repeat(s, 1<<22))
	}
}

// P5.2: what a record is has no limit but its fields' own: only Put has one more.
func TestTakeLonger(t *testing.T) {
	for _, n := range []int{1<<20 + 1, 1 << 21, 1<<24 - 1} {
		s := record(text(n))
		isTaken(t, fmt.Sprintf("the record of %d bytes", n), s, text(n))
		isNone(t, fmt.Sprintf("the record of %d bytes, cut short", n), s[:len(s)-1])
	}
}

// P5.2: a text without a record at its beginning.
func TestTakeNone(t *testing.T) {
	f := field('R', "ab")
	sum := number(uint64(adler32.Checksum([]byte(f))))
	isNone(t, "nothing", "")
	for _, s := range []string{
		"\x00", "R", "S", "z", "ab", text(50),
		f, field('R', ""), f + f, f + f + field('S', sum), // no sum
		field('S', sum), field('S', sum) + f, field('S', sum) + record("ab"), // no body
		"\x00" + record("ab"), "z" + record("ab"), "R" + record("ab"), // not at the beginning
		f + "\x00" + field('S', sum), f + field('T', "") + field('S', sum), f + field('S', "") + field('S', sum), // not side by side
		field('R', f+field('S', sum)), f + field('S', field('S', sum)), // one in the other
		f + field('R', sum), f + field('T', sum), f + field('s', sum), field('r', "ab") + field('S', sum), // other letters
	} {
		for _, behind := range []string{"", "z", record("c")} {
			isNone(t, fmt.Sprintf("% x", s+behind), s+behind)
		}
	}
}

// P5.2: the sum is one of the whole field, and of nothing else.
func TestTakeOtherSum(t *testing.T) {
	f := field('R', "ab")
	right := uint64(adler32.Checksum([]byte(f)))
	for _, of := range []string{"", "ab", "R", f[:4], f[1:], f[:5], f + "S", field('R', "ba"), field('S', "ab"), record("ab")} {
		isNone(t, fmt.Sprintf("a record with the sum of % x", of), f+field('S', number(uint64(adler32.Checksum([]byte(of))))))
	}
	for _, n := range []uint64{0, 1, right - 1, right + 1, right << 8, right >> 8, right>>16 | right&0xffff<<16, right ^ 0xffffffff, 1<<32 - 1} {
		isNone(t, fmt.Sprintf("a record with the sum %x", n), f+field('S', number(n)))
	}
}

// P5.2: the sum's field has no more bytes than its number needs, and no number that is above 32 bits.
func TestTakeWideSum(t *testing.T) {
	for i, body := range append(bodies(), "Wikipedia") {
		f := field('R', body)
		right := uint64(adler32.Checksum([]byte(f)))
		sum := number(right)
		for zeros := 1; zeros < 12; zeros++ {
			what := fmt.Sprintf("the record of body %d, %d bytes", i, zeros)
			isNone(t, what+" 0 ahead of the sum", f+field('S', strings.Repeat("\x00", zeros)+sum))
			isNone(t, what+" 0 behind the sum", f+field('S', sum+strings.Repeat("\x00", zeros)))
			isNone(t, what+" 1 ahead of the sum", f+field('S', strings.Repeat("\x01", zeros)+sum))
		}
		for at := 32; at < 64; at++ {
			isNone(t, fmt.Sprintf("the record of body %d, the bit %d set", i, at), f+field('S', number(right+1<<at)))
		}
		turned := []byte(sum)
		if slices.Reverse(turned); string(turned) != sum {
			isNone(t, fmt.Sprintf("the record of body %d, with its sum's bytes turned", i), f+field('S', string(turned)))
		}
	}
}

// P5.2: a record that is cut short, at whatever place, is none.
func TestTakeCut(t *testing.T) {
	for i, body := range bodies() {
		s := record(body)
		for cut := range s {
			isNone(t, fmt.Sprintf("the record of body %d, cut to %d bytes", i, cut), s[:cut])
		}
	}
}

// P5.2: of a record one byte of which is left out, or stands twice, nothing is taken.
func TestTakeShifted(t *testing.T) {
	s := record("abcd")
	for _, behind := range []string{"", "\x00", record("z")} {
		for i := range s {
			isNone(t, fmt.Sprintf("a record without byte %d", i), s[:i]+s[i+1:]+behind)
		}
		for i := range len(s) - 1 { // the last one twice stands behind a record
			isNone(t, fmt.Sprintf("a record with byte %d twice", i), s[:i+1]+s[i:]+behind)
		}
	}
}
