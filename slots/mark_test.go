package slots_test

import (
	"encoding/binary"
	"encoding/hex"
	"fmt"
	"math"
	"strings"
	"testing"

	"twinspan/api"
	"twinspan/slots"
)

// zeros is a sector that was never written.
var zeros = strings.Repeat("\x00", api.Size)

// sector is the sector of three numbers, and of one that stands at its end.
func sector(epoch, bytes, count, again uint64) string {
	b := make([]byte, api.Size)
	for i, n := range []uint64{epoch, bytes, count, 0, 0, 0, 0, again} {
		binary.BigEndian.PutUint64(b[8*i:], n)
	}
	return string(b)
}

// sectorOf is a mark's sector, by the chapter's words.
func sectorOf(m api.Mark) string {
	n := func(n int) uint64 { return uint64(max(n, 0)) }
	return sector(n(m.Epoch), n(m.Bytes), n(m.Count), n(m.Epoch))
}

// isUnpacked tells whether Unpack tells another thing than a mark.
func isUnpacked(t *testing.T, what, s string, want api.Mark) {
	t.Helper()
	if m, ok := slots.Unpack(s); m != want || !ok {
		t.Errorf("Unpack of %s: %v, %t; want %v, true", what, m, ok, want)
	}
}

// isNone tells whether Unpack tells a mark where there is none.
func isNone(t *testing.T, what, s string) {
	t.Helper()
	if m, ok := slots.Unpack(s); m != (api.Mark{}) || ok {
		t.Errorf("Unpack of %s: %v, %t; want nothing, false", what, m, ok)
	}
}

// isNewest tells whether Newest tells another mark.
func isNewest(t *testing.T, what, a, b string, want api.Mark) {
	t.Helper()
	if m := slots.Newest(a, b); m != want {
		t.Errorf("Newest of %s: %v, want %v", what, m, want)
	}
}

// edges are numbers that a mark may have: those at the ends of bytes among them.
func edges() []int {
	return []int{0, 1, 2, 255, 256, 65535, 65536, 1<<24 - 1, 1 << 24, 1<<32 - 1, 1 << 32, 0x1234567890, 1<<40 - 1, 1 << 40}
}

// P7.1: a mark's sector, byte by byte.
func TestPack(t *testing.T) {
	for _, c := range []struct {
		m    api.Mark
		want string
	}{
		{api.Mark{}, strings.Repeat("00", 64)},
		{api.Mark{Epoch: 1, Bytes: 2, Count: 3}, "0000000000000001" + "0000000000000002" + "0000000000000003" + strings.Repeat("00", 32) + "0000000000000001"},
		{api.Mark{Epoch: 3, Bytes: 300, Count: 2}, "0000000000000003" + "000000000000012c" + "0000000000000002" + strings.Repeat("00", 32) + "0000000000000003"},
		{api.Mark{Epoch: 0x0102030405, Bytes: 0x1112131415, Count: 0x2122232425}, "0000000102030405" + "0000001112131415" + "0000002122232425" + strings.Repeat("00", 32) + "0000000102030405"},
		{api.Mark{Epoch: 0x0102030405060708, Bytes: 0x1112131415161718, Count: 0x2122232425262728}, "0102030405060708" + "1112131415161718" + "2122232425262728" + strings.Repeat("00", 32) + "0102030405060708"},
	} {
		if got := hex.EncodeToString([]byte(slots.Pack(c.m))); got != c.want {
			t.Errorf("Pack(%v): %s, want %s", c.m, got, c.want)
		}
	}
}

// P7.1: numbers below 0 are written as 0, and those beyond 2^40 as they are.
func TestPackNumbers(t *testing.T) {
	l := append(edges(), -1, -2, -256, -1<<40, math.MinInt, 1<<40+1, 1<<41, 1<<50+7, 1<<62, math.MaxInt)
	for _, a := range l {
		for _, b := range l {
			for _, c := range l {
				m := api.Mark{Epoch: a, Bytes: b, Count: c}
				if got, want := slots.Pack(m), sectorOf(m); got != want {
					t.Fatalf("Pack(%v): %x, want %x", m, got, want)
				}
			}
		}
	}
}

// P7.1: of each mark whose numbers are at most 2^40 its sector is read again.
func TestUnpack(t *testing.T) {
	isUnpacked(t, "64 bytes 0", zeros, api.Mark{})
	for _, a := range edges() {
		for _, b := range edges() {
			for _, c := range edges() {
				m := api.Mark{Epoch: a, Bytes: b, Count: c}
				isUnpacked(t, fmt.Sprintf("the sector of %v", m), sectorOf(m), m)
				isUnpacked(t, fmt.Sprintf("what is packed of %v", m), slots.Pack(m), m)
			}
		}
	}
}

// P7.1: a number above 2^40 is no mark's, wherever it stands.
func TestUnpackTooGreat(t *testing.T) {
	for _, n := range []uint64{1<<40 + 1, 1<<40 + 2, 1<<40 + 1<<32, 1 << 41, 1 << 48, 1 << 56, 1<<63 - 1, 1 << 63, 1<<63 + 1, math.MaxUint64} {
		for _, other := range []uint64{0, 1, 1 << 40, n} {
			isNone(t, fmt.Sprintf("Epoch %x", n), sector(n, other, other, n))
			isNone(t, fmt.Sprintf("Bytes %x", n), sector(1, n, min(other, 1<<40), 1))
			isNone(t, fmt.Sprintf("Bytes %x, Epoch 0", n), sector(0, n, 0, 0))
			isNone(t, fmt.Sprintf("Count %x", n), sector(1, min(other, 1<<40), n, 1))
			isNone(t, fmt.Sprintf("Count %x, Epoch 0", n), sector(0, 0, n, 0))
		}
	}
}

// P7.1: a text that has not the bytes of a sector, just these, is none.
func TestUnpackSizes(t *testing.T) {
	s := sector(1, 2, 3, 1)
	for n := range api.Size {
		isNone(t, fmt.Sprintf("%d bytes 0", n), zeros[:n])
		isNone(t, fmt.Sprintf("the first %d bytes", n), s[:n])
		isNone(t, fmt.Sprintf("all but the first %d bytes", n+1), s[n+1:])
	}
	for _, behind := range []string{"\x00", "\x01", "x", zeros, s, strings.Repeat(s, 1000)} {
		isNone(t, fmt.Sprintf("a sector and %d bytes behind", len(behind)), s+behind)
		isNone(t, fmt.Sprintf("a sector and %d bytes ahead", len(behind)), behind+s)
		isNone(t, fmt.Sprintf("%d bytes 0", api.Size+len(behind)), zeros+strings.Repeat("\x00", len(behind)))
	}
}

// P7.1: with a byte turned, a sector is that of another mark, if the byte is one of Bytes or Count, and else none.
func TestUnpackTurned(t *testing.T) {
	for _, m := range []api.Mark{{}, {Epoch: 1, Bytes: 2, Count: 3}, {Epoch: 0x0102030405, Bytes: 1 << 40, Count: 255}, {Epoch: 1 << 40, Bytes: 7, Count: 1 << 39}} {
		for at := range api.Size {
			for turn := 1; turn < 256; turn++ {
				b := []byte(sectorOf(m))
				b[at] ^= byte(turn)
				what := fmt.Sprintf("the sector of %v, byte %d turned by %02x", m, at, turn)
				bytes, count := binary.BigEndian.Uint64(b[8:]), binary.BigEndian.Uint64(b[16:])
				if at < 8 || at >= 24 || bytes > 1<<40 || count > 1<<40 {
					isNone(t, what, string(b))
				} else {
					isUnpacked(t, what, string(b), api.Mark{Epoch: m.Epoch, Bytes: int(bytes), Count: int(count)})
				}
			}
		}
	}
}

// P7.1, the chapter's example: with one of the last eight bytes another one, it is no mark's sector.
func TestUnpackUnlike(t *testing.T) {
	s := slots.Pack(api.Mark{Epoch: 1, Bytes: 2, Count: 3})
	for at := 56; at < 64; at++ {
		isNone(t, fmt.Sprintf("byte %d another one", at), s[:at]+"\x07"+s[at+1:])
	}
	for _, l := range [][2]uint64{{0, 1}, {1, 0}, {1, 2}, {2, 1}, {1, 3}, {256, 1}, {1, 256}, {255, 256}, {1 << 40, 0}, {0, 1 << 40}, {1 << 40, 1<<40 - 1}, {5, 1<<63 + 5}, {1, math.MaxUint64}} {
		isNone(t, fmt.Sprintf("Epochs %x and %x", l[0], l[1]), sector(l[0], 2, 3, l[1]))
		isNone(t, fmt.Sprintf("Epochs %x and %x, no Bytes", l[0], l[1]), sector(l[0], 0, 0, l[1]))
	}
}

// P7.1: the second one's mark, if its Epoch is the greater one, else the first one's; what is no mark's sector counts as one of Epoch 0.
func TestNewest(t *testing.T) {
	mark := func(epoch, n int) api.Mark { return api.Mark{Epoch: epoch, Bytes: n, Count: n + 1} }
	s := func(epoch, n int) string { return sectorOf(mark(epoch, n)) }
	for _, c := range []struct {
		what, a, b string
		want       api.Mark
	}{
		{"3 and 4", s(3, 30), s(4, 20), mark(4, 20)},
		{"4 and 3", s(4, 20), s(3, 30), mark(4, 20)},
		{"255 and 256", s(255, 9), s(256, 1), mark(256, 1)},
		{"256 and 255", s(256, 1), s(255, 9), mark(256, 1)},
		{"far ones", s(2, 1), s(1<<40, 0), mark(1<<40, 0)},
		{"far ones, turned", s(1<<40, 0), s(2, 1), mark(1<<40, 0)},
		{"the same", s(7, 1), s(7, 2), mark(7, 1)},
		{"the same, turned", s(7, 2), s(7, 1), mark(7, 2)},
		{"0 twice", s(0, 5), s(0, 6), mark(0, 5)},
		{"0 twice, turned", s(0, 6), s(0, 5), mark(0, 6)},
		{"0 and 1", s(0, 5), s(1, 0), mark(1, 0)},
		{"1 and 0", s(1, 0), s(0, 5), mark(1, 0)},
		{"bytes 0 and 1", zeros, s(1, 4), mark(1, 4)},
		{"1 and bytes 0", s(1, 4), zeros, mark(1, 4)},
		{"bytes 0 twice", zeros, zeros, api.Mark{}},
	} {
		isNewest(t, c.what, c.a, c.b, c.want)
	}
}

// P7.1: what is no mark's sector is the mark that is all 0, as the first one and as the second one.
func TestNewestOfNone(t *testing.T) {
	m := api.Mark{Epoch: 1, Bytes: 8, Count: 9}
	o := api.Mark{Epoch: 0, Bytes: 8, Count: 9}
	nones := []string{"", "x", zeros[1:], zeros + "\x00", strings.Repeat("\xff", api.Size), sector(9, 1, 1, 8), sector(1<<40+1, 1, 1, 1<<40+1), sectorOf(m)[:63], sectorOf(m) + "\x00"}
	for i, a := range nones {
		what := fmt.Sprintf("text %d, no mark's,", i)
		isNewest(t, what+" and a mark's", a, sectorOf(m), m)
		isNewest(t, "a mark's and "+what, sectorOf(m), a, m)
		isNewest(t, what+" and one of Epoch 0", a, sectorOf(o), api.Mark{})
		isNewest(t, "one of Epoch 0 and "+what, sectorOf(o), a, o)
		for j, b := range nones {
			isNewest(t, fmt.Sprintf("%s and text %d", what, j), a, b, api.Mark{})
		}
	}
}

// P7.1: a sector torn over that of another Epoch is the one or the other, or none; so the newest mark is never a third one.
func TestTornMark(t *testing.T) {
	for _, epoch := range []int{0, 1, 2, 7, 254, 255, 65534, 65535, 1<<32 - 1, 1<<40 - 2} {
		m := api.Mark{Epoch: epoch, Bytes: 300 + 13*epoch%1000, Count: epoch % 99}
		between := api.Mark{Epoch: epoch + 1, Bytes: m.Bytes + 40, Count: m.Count + 1}
		newer := api.Mark{Epoch: epoch + 2, Bytes: m.Bytes + 700, Count: m.Count + 2}
		older, newest := sectorOf(m), sectorOf(newer)
		for cut := range api.Size + 1 {
			s := newest[:cut] + older[cut:]
			what := fmt.Sprintf("%v torn over %v at %d", newer, m, cut)
			want := between
			switch s {
			case older:
				isUnpacked(t, what, s, m)
			case newest:
				isUnpacked(t, what, s, newer)
				want = newer
			default:
				isNone(t, what, s)
			}
			isNewest(t, what+", and the one between", s, sectorOf(between), want)
			isNewest(t, "the one between, and "+what, sectorOf(between), s, want)
		}
	}
}
