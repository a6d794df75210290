package device_test

import (
	"fmt"
	"math"
	"strings"
	"testing"

	"twinspan/api"
)

// outside are places at which a device with that many sectors has none.
func outside(sectors int) []int {
	return []int{-1, sectors, sectors + 1, -sectors, 1 << 32, math.MaxInt, math.MinInt}
}

// P6.2: Read tells what was written last, safe or not; Safe what was flushed.
func TestReadAndWrite(t *testing.T) {
	d := made(t, 4)
	for i, at := range []int{0, 2, 3} {
		isTold(t, "Write", d.Write(at, full("a")), api.OK)
		isRead(t, "written", d, at, full("a"), api.OK)
		isSafe(t, "written", d, at, zeros)
		if d.Steps() != 3*i+1 {
			t.Errorf("%d steps behind a Write, want %d", d.Steps(), 3*i+1)
		}
		isTold(t, "Flush", d.Flush(), api.OK)
		isRead(t, "flushed", d, at, full("a"), api.OK)
		isSafe(t, "flushed", d, at, full("a"))
		isTold(t, "Write again", d.Write(at, full("b")), api.OK)
		isRead(t, "written again", d, at, full("b"), api.OK)
		isSafe(t, "written again", d, at, full("a"))
	}
	isRead(t, "never written", d, 1, zeros, api.OK)
	isAs(t, "at the end", d, stands{4, 9, true}, api.Written{At: 3, S: full("b")})
}

// P6.2: a sector that is not there is not read, written or safe, and nothing comes of it.
func TestOutside(t *testing.T) {
	for _, n := range []int{1, 4, 4096} {
		d := made(t, n)
		d.Arm(0)
		for _, at := range outside(n) {
			isRead(t, "outside", d, at, "", api.ErrArg)
			isTold(t, "Write outside", d.Write(at, full("a")), api.ErrArg)
			isTold(t, "Write of nothing outside", d.Write(at, ""), api.ErrArg)
			isSafe(t, "outside", d, at, "")
		}
		isAs(t, "outside", d, stands{n, 0, true})
	}
}

// P6.2: a Write of fewer or more bytes than a sector has is none: it is no step either.
func TestWriteOfOtherSizes(t *testing.T) {
	d := made(t, 2)
	for _, n := range []int{0, 1, 63, 65, 128, 1 << 20} {
		isTold(t, fmt.Sprintf("Write of %d bytes", n), d.Write(1, strings.Repeat("a", n)), api.ErrArg)
		isRead(t, "refused", d, 1, zeros, api.OK)
		isAs(t, "refused", d, stands{2, 0, true})
	}
	isTold(t, "Write of 64 bytes", d.Write(1, full("a")), api.OK)
	isTold(t, "Write of 63 bytes", d.Write(1, full("b")[1:]), api.ErrArg)
	isRead(t, "refused", d, 1, full("a"), api.OK)
	isAs(t, "refused", d, stands{2, 1, true}, api.Written{At: 1, S: full("a")})
}

// P6.2: all bytes may stand in a sector, and they stay as they are.
func TestAllBytes(t *testing.T) {
	d := made(t, 4)
	for at := range 4 {
		s := make([]byte, api.Size)
		for i := range s {
			s[i] = byte(64*at + i)
		}
		isTold(t, "Write", d.Write(at, string(s)), api.OK)
		isTold(t, "Flush", d.Flush(), api.OK)
		clear(s[:32])
		isTold(t, "Write", d.Write(at, string(s)), api.OK)
		isRead(t, "half of it 0", d, at, string(s), api.OK)
		for i := range 32 {
			s[i] = byte(64*at + i)
		}
		isSafe(t, "whole", d, at, string(s))
	}
}

// P6.2: without power nothing is read, written or flushed: that is told ahead of a place or a text that is wrong.
func TestWithoutPower(t *testing.T) {
	d := made(t, 4)
	d.Write(1, full("a"))
	d.Flush()
	d.Write(1, full("b"))
	d.Arm(0)
	isTold(t, "Flush without steps left", d.Flush(), api.ErrPower)
	want := stands{4, 3, false}
	isAs(t, "power went", d, want, api.Written{At: 1, S: full("b")})
	for _, at := range append(outside(4), 0, 1, 3) {
		isRead(t, "no power", d, at, "", api.ErrPower)
		for _, n := range []int{0, 63, 64, 65} {
			isTold(t, "Write without power", d.Write(at, strings.Repeat("c", n)), api.ErrPower)
		}
		isTold(t, "Flush without power", d.Flush(), api.ErrPower)
	}
	isAs(t, "no power", d, want, api.Written{At: 1, S: full("b")})
	isSafe(t, "no power", d, 1, full("a"))
	isSafe(t, "no power", d, 0, zeros)
	isSafe(t, "no power", d, 4, "")
}

// P6.2: Flush is a step that makes all safe that waits, in order, also where nothing waits.
func TestFlush(t *testing.T) {
	d := made(t, 3)
	isTold(t, "Flush of nothing", d.Flush(), api.OK)
	isAs(t, "Flush of nothing", d, stands{3, 1, true})
	for _, s := range []string{"a", "b", "c"} {
		d.Write(0, full(s))
		d.Write(2, full(s))
	}
	d.Write(2, full("d"))
	isSafe(t, "not flushed", d, 0, zeros)
	isTold(t, "Flush", d.Flush(), api.OK)
	isAs(t, "flushed", d, stands{3, 9, true})
	for at, want := range []string{full("c"), zeros, full("d")} {
		isSafe(t, "flushed", d, at, want)
		isRead(t, "flushed", d, at, want, api.OK)
	}
}

// P6.2: a sector written back to bytes 0 is as one that was never written, also where it waits, and may be written again.
func TestZeroAgain(t *testing.T) {
	d := made(t, 2)
	d.Write(0, full("a"))
	d.Flush()
	d.Write(0, zeros)
	isRead(t, "0 again", d, 0, zeros, api.OK)
	isSafe(t, "0 again, not flushed", d, 0, full("a"))
	isAs(t, "0 again, not flushed", d, stands{2, 3, true}, api.Written{At: 0, S: zeros})
	d.Flush()
	isSafe(t, "0 again", d, 0, zeros)
	d.Write(0, full("b"))
	d.Write(0, zeros)
	d.Write(0, full("c"))
	isRead(t, "written again", d, 0, full("c"), api.OK)
	d.Crash([]bool{true, true, false}, -1, 0)
	isRead(t, "0 by a crash", d, 0, zeros, api.OK)
	isSafe(t, "0 by a crash", d, 0, zeros)
}

// P6.2, R3: what waits is told in order, and what was told is the caller's: neither does the one change the other.
func TestWaiting(t *testing.T) {
	d := made(t, 4)
	d.Write(3, full("a"))
	d.Write(0, full("b"))
	d.Write(3, full("c"))
	waits := func() []api.Written {
		return []api.Written{{At: 3, S: full("a")}, {At: 0, S: full("b")}, {At: 3, S: full("c")}}
	}
	told := d.Waiting()
	isAs(t, "first", d, stands{4, 3, true}, waits()...)
	for i := range told {
		told[i] = api.Written{At: 1, S: "x"}
	}
	_ = append(told[:0], api.Written{At: 2, S: "y"})
	isAs(t, "what was told is changed", d, stands{4, 3, true}, waits()...)
	isRead(t, "what was told is changed", d, 3, full("c"), api.OK)

	told = d.Waiting()
	d.Write(1, full("d"))
	d.Flush()
	for range 5 {
		d.Write(2, full("e"))
	}
	d.Crash(nil, 0, 0)
	d.Write(2, full("f"))
	for i, w := range waits() {
		if len(told) != 3 || told[i] != w {
			t.Fatalf("what was told is %v behind other calls, want %v", told, waits())
		}
	}
	_ = append(told, api.Written{At: 0, S: "z"})
	isAs(t, "at the end", d, stands{4, 11, true}, api.Written{At: 2, S: full("f")})
}

// R3: the owner of a text's bytes may change them behind the call.
func TestWriteKeepsNothingOfItsOwner(t *testing.T) {
	d := made(t, 1)
	s := []byte(full("a"))
	d.Write(0, string(s))
	clear(s)
	isRead(t, "the bytes were changed", d, 0, full("a"), api.OK)
}
