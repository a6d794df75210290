package tlv_test

import (
	"encoding/hex"
	"math"
	"slices"
	"strings"
	"testing"

	"twinspan/tlv"
)

const mostBody = 1<<24 - 1

// raw is the bytes that a text of hexadecimal digits, with blanks among them, names.
func raw(t *testing.T, digits string) string {
	t.Helper()
	b, err := hex.DecodeString(strings.ReplaceAll(digits, " ", ""))
	if err != nil {
		t.Fatal(err)
	}
	return string(b)
}

func written(t *testing.T, what, got, want string) {
	t.Helper()
	if w := raw(t, want); got != w {
		t.Errorf("%s: % x, want % x", what, got, w)
	}
}

// field is the field of that letter, of a body that is not too long.
func field(letter byte, body string) string {
	n := len(body)
	return string([]byte{letter, byte(n / 65536), byte(n / 256 % 256), byte(n % 256)}) + body
}

// P1.1: a number has as few bytes as it needs, the greatest first.
func TestNumWritten(t *testing.T) {
	for _, c := range []struct {
		n    uint64
		want string
	}{
		{0, "6e 000000"},
		{1, "6e 000001 01"},
		{255, "6e 000001 ff"},
		{256, "6e 000002 0100"},
		{300, "6e 000002 012c"},
		{1<<16 - 1, "6e 000002 ffff"},
		{1 << 16, "6e 000003 010000"},
		{1 << 32, "6e 000005 0100000000"},
		{0x0102030405060708, "6e 000008 0102030405060708"},
		{1<<56 - 1, "6e 000007 ffffffffffffff"},
		{1 << 56, "6e 000008 0100000000000000"},
		{math.MaxUint64, "6e 000008 ffffffffffffffff"},
	} {
		written(t, "Num", tlv.Num('n', c.n), c.want)
	}
	written(t, "Num of the least letter", tlv.Num(0, 1), "00 000001 01")
	written(t, "Num of a letter that is no ASCII", tlv.Num(0x80, 1), "80 000001 01")
	written(t, "Num of the greatest letter", tlv.Num(0xff, 0), "ff 000000")
}

// P1.1: Int is Num; below 0 it is Num of 0.
func TestIntWritten(t *testing.T) {
	for _, c := range []struct {
		n    int
		want string
	}{
		{math.MinInt, "69 000000"},
		{-300, "69 000000"},
		{-1, "69 000000"},
		{0, "69 000000"},
		{1, "69 000001 01"},
		{300, "69 000002 012c"},
		{math.MaxInt64, "69 000008 7fffffffffffffff"},
	} {
		written(t, "Int", tlv.Int('i', c.n), c.want)
	}
}

// P1.1: a text's body is the text, whatever its bytes are.
func TestTextWritten(t *testing.T) {
	written(t, "Text", tlv.Text('t', "ab"), "74 000002 6162")
	written(t, "Text of nothing", tlv.Text('t', ""), "74 000000")
	written(t, "Text of any bytes", tlv.Text(0xfe, "\x00\xff\xc3"), "fe 000003 00ffc3")
	for _, n := range []int{255, 256, 1<<16 - 1, 1 << 16, 1<<16 + 513} {
		s := strings.Repeat("s", n)
		if got := tlv.Text('t', s); got != field('t', s) {
			t.Errorf("Text of %d bytes: %d bytes that begin with % x", n, len(got), got[:4])
		}
	}
}

// P1.1: of a text that is longer than a body may be its first bytes are written.
func TestLongTextWritten(t *testing.T) {
	full := strings.Repeat("a", mostBody-1) + "z"
	for _, behind := range []string{"", "b", strings.Repeat("c", 1<<20)} {
		if got := tlv.Text('t', full+behind); got != field('t', full) {
			t.Errorf("Text of %d bytes: %d bytes that are not its first %d behind a head", len(full+behind), len(got), mostBody)
		}
	}
}

// P1.1: All is a field of fields of the same letter.
func TestAllWritten(t *testing.T) {
	written(t, "All", tlv.All('l', "a", ""), "6c 000009 6c000001 61 6c000000")
	written(t, "All in order", tlv.All('l', "b", "ac", "b"), "6c 000010 6c000001 62 6c000002 6163 6c000001 62")
	written(t, "All of nothing", tlv.All('l'), "6c 000000")
	written(t, "All of nil", tlv.All('l', []string(nil)...), "6c 000000")
	written(t, "All of one empty text", tlv.All('l', ""), "6c 000004 6c000000")
	written(t, "All of another letter", tlv.All(0xff, "x"), "ff 000005 ff000001 78")
}

// P1.1: a list's body has its limit, as each text in it has.
func TestLongAllWritten(t *testing.T) {
	full := strings.Repeat("a", mostBody-4) // its field is just a body
	over := strings.Repeat("b", mostBody+9)
	for _, c := range []struct {
		what string
		l    []string
		body string
	}{
		{"a full body", []string{full}, field('l', full)},
		{"a full body, and one behind it", []string{full, "c"}, field('l', full)},
		{"a field that is cut in its head", []string{full[2:], "c"}, field('l', full[2:]) + "l\x00"},
		{"a field that is cut in its body", []string{full[8:], "cdefgh"}, field('l', full[8:]) + "l\x00\x00\x06cdef"},
		{"a text that is too long", []string{over, "c"}, field('l', over[:mostBody])[:mostBody]},
		{"many long texts", slices.Repeat([]string{full}, 100), field('l', full)},
		{"many empty texts", make([]string, 1<<22), strings.Repeat(field('l', ""), 1<<22)[:mostBody]},
	} {
		if got, want := tlv.All('l', c.l...), field('l', c.body); got != want {
			t.Errorf("All of %s: %d bytes that are not the %d that were wanted", c.what, len(got), len(want))
		}
	}
}

// R3: what is handed in stays as it is, and has no effect when it is changed later.
func TestAllKeepsList(t *testing.T) {
	l := []string{"a", "b", "c"}
	got := tlv.All('l', l[:2]...)
	if !slices.Equal(l, []string{"a", "b", "c"}) {
		t.Errorf("the list became %q", l)
	}
	l[0] = "x"
	written(t, "All of a list that is changed later", got, "6c 00000a 6c000001 61 6c000001 62")
}
