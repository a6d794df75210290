package wide_test

import (
	"fmt"
	"math/big"
	"strings"
	"testing"

	"twinspan/api"
	"twinspan/wide"
)

// most is the text of 2^256 - 1, of 78 digits.
const most = "115792089237316195423570985008687907853269984665640564039457584007913129639935"

// fromBytes and fromText ask for a number, and hold it against want.
func fromBytes(t *testing.T, what, s string, want api.Wide, fault api.Errno) {
	t.Helper()
	got, e := wide.FromBytes(s)
	isWide(t, "FromBytes of "+what, got, want)
	isSaid(t, "FromBytes of "+what, e, fault)
}

func fromText(t *testing.T, what, s string, want api.Wide, fault api.Errno) {
	t.Helper()
	got, e := wide.FromText(s)
	isWide(t, "FromText of "+what, got, want)
	isSaid(t, "FromText of "+what, e, fault)
}

// noText holds that s is no number's text.
func noText(t *testing.T, what, s string) {
	t.Helper()
	fromText(t, what, s, api.Wide{}, api.ErrForm)
}

// P4.3: the bytes are 32, the greatest first; the number is told from them again.
func TestBytes(t *testing.T) {
	isSaid(t, "Bytes of 0", wide.Bytes(api.Wide{}), strings.Repeat("\x00", 32))
	isSaid(t, "Bytes of 1", wide.Bytes(wide.Of(1)), strings.Repeat("\x00", 31)+"\x01")
	isSaid(t, "Bytes of Most", wide.Bytes(wide.Most()), strings.Repeat("\xff", 32))
	each := api.Wide{0x191a1b1c1d1e1f20, 0x1112131415161718, 0x090a0b0c0d0e0f10, 0x0102030405060708}
	isSaid(t, "Bytes of 01 to 20", wide.Bytes(each), "\x01\x02\x03\x04\x05\x06\x07\x08\x09\x0a\x0b\x0c\x0d\x0e\x0f\x10\x11\x12\x13\x14\x15\x16\x17\x18\x19\x1a\x1b\x1c\x1d\x1e\x1f\x20")
	for _, a := range append(numbers(), drawn(200)...) {
		want := string(large(a).FillBytes(make([]byte, 32)))
		isSaid(t, fmt.Sprintf("Bytes(%x)", a), wide.Bytes(a), want)
		fromBytes(t, fmt.Sprintf("%x's bytes", a), want, a, api.OK)
	}
}

// P4.3: each single byte has its place.
func TestEachByte(t *testing.T) {
	for at := range 32 {
		for _, c := range []byte{1, 0x7f, 0x80, 0xff} {
			var l [32]byte
			l[at] = c
			var want api.Wide
			want[3-at/8] = uint64(c) << (56 - at%8*8)
			what := fmt.Sprintf("the byte %x at %d", c, at)
			fromBytes(t, what, string(l[:]), want, api.OK)
			isSaid(t, "Bytes of "+what, wide.Bytes(want), string(l[:]))
		}
	}
}

// P4.3: bytes that are fewer or more than 32 are no number's.
func TestBytesOfOtherLengths(t *testing.T) {
	for n := range 130 {
		for _, c := range []string{"\x00", "\x01", "\xff", "7"} {
			want, fault := api.Wide{}, api.ErrForm
			if n == 32 {
				fault = api.OK
				for i := range want {
					want[i] = uint64(c[0]) * 0x0101010101010101
				}
			}
			fromBytes(t, fmt.Sprintf("%d bytes %x", n, c), strings.Repeat(c, n), want, fault)
		}
	}
	for _, n := range []int{1 << 8, 1<<8 + 32, 1 << 16, 1<<16 + 32, 1 << 24} {
		fromBytes(t, fmt.Sprintf("%d bytes", n), strings.Repeat("\x00", n), api.Wide{}, api.ErrForm)
	}
}

// P4.3: the chapter's example, and texts written and read again, of one digit and of 78.
func TestText(t *testing.T) {
	sum, _ := wide.Add(wide.Of(1<<64-1), wide.Of(1))
	isSaid(t, "Text of 2^64", wide.Text(sum), "18446744073709551616")
	isSaid(t, "Text of Most", wide.Text(wide.Most()), most)
	isSaid(t, "the digits of Most", len(wide.Text(wide.Most())), 78)
	for n := range 10 {
		s := string([]byte{byte('0' + n)})
		isSaid(t, "Text of the number "+s, wide.Text(wide.Of(uint64(n))), s)
		fromText(t, s, s, wide.Of(uint64(n)), api.OK)
	}
	for _, a := range append(numbers(), drawn(200)...) {
		want := large(a).String()
		isSaid(t, fmt.Sprintf("Text(%x)", a), wide.Text(a), want)
		fromText(t, want, want, a, api.OK)
	}
}

// P4.3: texts of all lengths: powers of ten, and the numbers beside them.
func TestTextsOfAllLengths(t *testing.T) {
	for n := range 78 {
		power := "1" + strings.Repeat("0", n)
		at, e := wide.FromText(power)
		isSaid(t, power, e, api.OK)
		isSaid(t, power+", the number", large(at).String(), power)
		isSaid(t, power+", its text", wide.Text(at), power)
		less, _ := wide.Sub(at, wide.Of(1))
		nines := strings.Repeat("9", n)
		if n == 0 {
			nines = "0"
		}
		isSaid(t, "one less than "+power, wide.Text(less), nines)
		fromText(t, nines, nines, less, api.OK)
		more, _ := wide.Add(at, wide.Of(1))
		want := large(more).String()
		isSaid(t, "one more than "+power, wide.Text(more), want)
		fromText(t, want, want, more, api.OK)
	}
}

// P4.3: 2^256 - 1 is a number; one more, and all above it, are none.
func TestTextsTooGreat(t *testing.T) {
	fromText(t, "2^256 - 1", most, wide.Most(), api.OK)
	least := above()
	for n := range 300 {
		s := new(big.Int).Add(least, big.NewInt(int64(n))).String()
		noText(t, s, s)
	}
	for n := 78; n < 200; n++ {
		noText(t, fmt.Sprintf("10^%d", n), "1"+strings.Repeat("0", n))
		noText(t, fmt.Sprintf("%d nines", n), strings.Repeat("9", n))
	}
	for k := range int64(20) { // such as are less than 2^256 again, if what is above is left out
		s := new(big.Int).Add(new(big.Int).Mul(least, big.NewInt(k+1)), big.NewInt(k)).String()
		noText(t, s, s)
	}
	noText(t, "2^320", new(big.Int).Lsh(least, 64).String())
	noText(t, "2^512", new(big.Int).Lsh(least, 256).String())
	for at := range most { // each digit one greater
		if most[at] == '9' {
			continue
		}
		s := most[:at] + string(most[at]+1) + most[at+1:]
		noText(t, s, s)
	}
}

// P4.3: a text has as few digits as there must be, and one at least.
func TestTextsWithZeros(t *testing.T) {
	noText(t, "no byte", "")
	fromText(t, "0", "0", api.Wide{}, api.OK)
	for n := 2; n < 100; n++ {
		noText(t, fmt.Sprintf("%d zeros", n), strings.Repeat("0", n))
	}
	for _, s := range []string{"1", "7", "10", "255", "18446744073709551616", most} {
		for n := 1; n < 90; n++ {
			noText(t, fmt.Sprintf("%s with %d zeros ahead", s, n), strings.Repeat("0", n)+s)
		}
	}
}

// P4.3: a byte that is no digit makes a text none, wherever it stands.
func TestTextsOfOtherBytes(t *testing.T) {
	for _, s := range []string{
		"+1", "-1", "+0", "-0", "-", "+", " 1", "1 ", " ", "1 0", "1_0", "1,000", "1.0", ".", "1e3", "0x10", "0b1", "0o7", "ff", "1\n", "\t1", "1\x00", "\x00", "\x00\x00", "１", "٣", "²", "\xff", most + " ", " " + most, "-" + most,
	} {
		noText(t, fmt.Sprintf("%q", s), s)
	}
	for c := range 256 {
		s := string([]byte{byte(c)})
		if c >= '0' && c <= '9' {
			continue
		}
		for _, text := range []string{s, s + "1", "1" + s, "1" + s + "1", "0" + s, s + "0", "12345678901234567890" + s, most[:77] + s} {
			noText(t, fmt.Sprintf("%q", text), text)
		}
	}
}

// P4.3, R5: very long texts are answered too.
func TestVeryLongTexts(t *testing.T) {
	const n = 1 << 24
	noText(t, "2^24 digits 1", strings.Repeat("1", n))
	noText(t, "2^24 zeros", strings.Repeat("0", n))
	noText(t, "2^24 zeros, and a 1", strings.Repeat("0", n)+"1")
	noText(t, "a 1, and 2^24 zeros", "1"+strings.Repeat("0", n))
	noText(t, "2^24 spaces", strings.Repeat(" ", n))
	noText(t, "2^24 digits 9, and a letter", strings.Repeat("9", n)+"x")
}
