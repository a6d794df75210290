package device_test

import (
	"fmt"
	"math"
	"slices"
	"strings"
	"testing"

	"twinspan/api"
	"twinspan/device"
)

// zeros is what a sector has that was never written.
var zeros = strings.Repeat("\x00", api.Size)

// full is a sector's text of one byte.
func full(s string) string { return strings.Repeat(s, api.Size) }

// torn is a sector's text whose first n bytes are those of s, and the others those of behind.
func torn(s string, n int, behind string) string { return full(s)[:n] + full(behind)[n:] }

// made is a device that must be.
func made(t *testing.T, sectors int) *device.Device {
	t.Helper()
	d := device.New(sectors)
	if d == nil {
		t.Fatalf("New(%d) told nil", sectors)
	}
	return d
}

// isTold tells whether a call told another error.
func isTold(t *testing.T, what string, got, want api.Errno) {
	t.Helper()
	if got != want {
		t.Errorf("%s: told %d, want %d", what, got, want)
	}
}

// isRead tells whether Read tells another thing.
func isRead(t *testing.T, what string, d *device.Device, at int, want string, wantE api.Errno) {
	t.Helper()
	if s, e := d.Read(at); s != want || e != wantE {
		t.Errorf("%s: Read(%d): %q, %d; want %q, %d", what, at, s, e, want, wantE)
	}
}

// isSafe tells whether another thing is safe of a sector.
func isSafe(t *testing.T, what string, d *device.Device, at int, want string) {
	t.Helper()
	if s := d.Safe(at); s != want {
		t.Errorf("%s: Safe(%d): %q, want %q", what, at, s, want)
	}
}

// stands is how a device stands.
type stands struct {
	sectors, steps int
	on             bool
}

// isAs tells whether a device stands in another way, or other writes wait.
func isAs(t *testing.T, what string, d *device.Device, want stands, waits ...api.Written) {
	t.Helper()
	if got := (stands{d.Sectors(), d.Steps(), d.On()}); got != want {
		t.Errorf("%s: sectors, steps, power are %v, want %v", what, got, want)
	}
	if l := d.Waiting(); !slices.Equal(l, waits) {
		t.Errorf("%s: these wait: %v; want %v", what, l, waits)
	}
}

// P6.1: a device has as many sectors as it was asked for, all of bytes 0, and power.
func TestNew(t *testing.T) {
	for _, n := range []int{1, 2, 3, 64, 4095, 4096} {
		d := made(t, n)
		what := fmt.Sprintf("New(%d)", n)
		isAs(t, what, d, stands{n, 0, true})
		for _, at := range []int{0, n / 2, n - 1} {
			isRead(t, what, d, at, zeros, api.OK)
			isSafe(t, what, d, at, zeros)
		}
		isRead(t, what, d, n, "", api.ErrArg)
		isTold(t, what+": Write of the last one", d.Write(n-1, full("a")), api.OK)
		isTold(t, what+": Write behind it", d.Write(n, full("a")), api.ErrArg)
	}
}

// P6.1: there is none with fewer sectors than 1, or more than MaxSectors.
func TestNewOfNone(t *testing.T) {
	for _, n := range []int{0, -1, -4096, math.MinInt, 4097, 8192, 1 << 32, math.MaxInt} {
		if d := device.New(n); d != nil {
			t.Errorf("New(%d): a device with %d sectors, want nil", n, d.Sectors())
		}
	}
}

// P6.1: two devices share nothing.
func TestNewSharesNothing(t *testing.T) {
	a, b := made(t, 2), made(t, 2)
	a.Write(0, full("a"))
	a.Flush()
	a.Write(1, full("b"))
	a.Arm(0)
	a.Flush()
	isAs(t, "the other one", b, stands{2, 0, true})
	isRead(t, "the other one", b, 0, zeros, api.OK)
	isSafe(t, "the other one", b, 1, zeros)
	isTold(t, "the other one's Flush", b.Flush(), api.OK)
}

// everyCall makes every call of a device that has no sectors and no power, and looks at what it tells.
func everyCall(t *testing.T, what string, d *device.Device, e api.Errno) {
	t.Helper()
	for _, at := range []int{-1, 0, 1, math.MaxInt, math.MinInt} {
		isRead(t, what, d, at, "", e)
		isSafe(t, what, d, at, "")
		isTold(t, what+": Write", d.Write(at, full("a")), e)
		isTold(t, what+": Write of nothing", d.Write(at, ""), e)
	}
	isTold(t, what+": Flush", d.Flush(), e)
	isAs(t, what, d, stands{})
	for _, n := range []int{-1, 0, 1, math.MaxInt} {
		d.Arm(n)
		isTold(t, what+", armed: Flush", d.Flush(), e)
		d.Crash([]bool{true, true}, n, n)
		d.Crash(nil, 0, 0)
		isAs(t, what+", crashed", d, stands{})
	}
}

// R1: of a nil device what can tell ErrArg does so, and the others tell nothing.
func TestNil(t *testing.T) {
	everyCall(t, "a nil device", nil, api.ErrArg)
	everyCall(t, "what New told of 0", device.New(0), api.ErrArg)
}

// P6.4: a zero device has no sectors and no power, and is given none: that is told ahead of all else.
func TestZero(t *testing.T) {
	d := new(device.Device)
	everyCall(t, "a zero device", d, api.ErrPower)
	everyCall(t, "a zero device, again", d, api.ErrPower)
}
