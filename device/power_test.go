package device_test

import (
	"fmt"
	"math"
	"testing"

	"twinspan/api"
	"twinspan/device"
)

// P6.2: a Write that no steps are left for is told ErrPower, is no step, and waits all the same.
func TestPowerGoesInAWrite(t *testing.T) {
	d := made(t, 2)
	d.Write(0, full("a"))
	d.Arm(0)
	if !d.On() {
		t.Errorf("armed, there is no power ahead of the step")
	}
	isTold(t, "Write", d.Write(1, full("b")), api.ErrPower)
	waits := []api.Written{{At: 0, S: full("a")}, {At: 1, S: full("b")}}
	isAs(t, "power went", d, stands{2, 1, false}, waits...)
	isTold(t, "Write again", d.Write(1, full("c")), api.ErrPower)
	isAs(t, "no power", d, stands{2, 1, false}, waits...)
	d.Crash([]bool{false, true}, -1, 0)
	isAs(t, "crashed", d, stands{2, 1, true})
	isRead(t, "lost", d, 0, zeros, api.OK)
	isRead(t, "kept", d, 1, full("b"), api.OK)
}

// P6.2: a Flush that no steps are left for makes nothing safe.
func TestPowerGoesInAFlush(t *testing.T) {
	d := made(t, 2)
	d.Arm(1)
	isTold(t, "Write", d.Write(0, full("a")), api.OK)
	isTold(t, "Flush", d.Flush(), api.ErrPower)
	isAs(t, "power went", d, stands{2, 1, false}, api.Written{At: 0, S: full("a")})
	isSafe(t, "power went", d, 0, zeros)
	d.Crash(nil, -1, 0)
	isRead(t, "lost", d, 0, zeros, api.OK)
}

// stepsLeft is how many steps a device has till power goes, of at most that many.
func stepsLeft(d *device.Device, most int) int {
	for n := range most {
		step := d.Flush
		if n%2 == 1 {
			step = func() api.Errno { return d.Write(0, full("s")) }
		}
		if step() != api.OK {
			return n
		}
	}
	return most
}

// P6.3: so many steps are left as the device was armed with last; of a number below 0, none.
func TestArm(t *testing.T) {
	d := made(t, 2)
	for _, n := range []int{-1, math.MinInt} {
		d.Arm(n)
		isTold(t, fmt.Sprintf("Flush behind Arm(%d)", n), d.Flush(), api.ErrPower)
		d.Crash(nil, 0, 0)
	}
	for _, l := range [][]int{{0}, {1}, {2, 0}, {7}, {5, -1}, {0, 3}, {-3, 1}, {9, 4}, {4, 9}, {math.MaxInt, 2}} {
		for _, n := range l {
			d.Arm(n)
		}
		had := d.Steps()
		want := max(l[len(l)-1], 0)
		for n := range want {
			isTold(t, "a step", d.Write(n%2, full("a")), api.OK)
		}
		if d.Steps() != had+want || !d.On() {
			t.Errorf("armed by %v: %d steps happened, want %d", l, d.Steps()-had, want)
		}
		isTold(t, fmt.Sprintf("a step beyond Arm of %v", l), d.Write(1, full("b")), api.ErrPower)
		isAs(t, "beyond", d, stands{2, had + want, false}, d.Waiting()...)
		d.Crash(nil, 0, 0)
	}
}

// P6.3: armed again when some steps were done, the device has those of the last Arm.
func TestArmAgain(t *testing.T) {
	d := made(t, 1)
	d.Arm(3)
	d.Flush()
	d.Flush()
	d.Arm(2)
	if n := stepsLeft(d, 9); n != 2 {
		t.Errorf("%d steps were left, want 2", n)
	}
	d.Crash(nil, 0, 0)
	d.Arm(0)
	d.Arm(math.MaxInt)
	if n := stepsLeft(d, 100); n != 100 {
		t.Errorf("%d steps were left, want more", n)
	}
}

// P6.2: neither Read, Safe and the others, nor a refused Write, is a step: none is taken from those left.
func TestWhatIsNoStep(t *testing.T) {
	d := made(t, 2)
	d.Arm(1)
	for range 3 {
		isRead(t, "armed", d, 0, zeros, api.OK)
		isRead(t, "armed", d, 2, "", api.ErrArg)
		isTold(t, "Write outside", d.Write(2, full("a")), api.ErrArg)
		isTold(t, "Write of 63 bytes", d.Write(0, full("a")[1:]), api.ErrArg)
		isSafe(t, "armed", d, 0, zeros)
		isAs(t, "armed", d, stands{2, 0, true})
	}
	isTold(t, "the step", d.Flush(), api.OK)
	isTold(t, "Write outside, no steps left", d.Write(-1, full("a")), api.ErrArg)
	isRead(t, "no steps left", d, 1, zeros, api.OK)
	isAs(t, "no steps left", d, stands{2, 1, true})
	isTold(t, "Write", d.Write(0, full("a")), api.ErrPower)
	isAs(t, "no power", d, stands{2, 1, false}, api.Written{At: 0, S: full("a")})
}

// P6.3: a crash disarms, with power or without, and the steps that happened stay.
func TestCrashDisarms(t *testing.T) {
	d := made(t, 1)
	d.Arm(0)
	d.Crash(nil, 0, 0)
	isAs(t, "crashed with power", d, stands{1, 0, true})
	if n := stepsLeft(d, 50); n != 50 {
		t.Errorf("%d steps were left behind a crash with power, want more", n)
	}
	d.Arm(0)
	d.Flush()
	d.Crash(nil, 0, 0)
	isAs(t, "crashed without power", d, stands{1, 50, true})
	d.Arm(0)
	d.Flush()
	d.Arm(5)
	isAs(t, "armed without power", d, stands{1, 50, false})
	d.Crash(nil, 0, 0)
	if n := stepsLeft(d, 50); n != 50 {
		t.Errorf("%d steps were left behind a crash without power, want more", n)
	}
}

// P6.3, the chapter's example: what is kept is written, what is lost is as it was.
func TestCrashKeepsOneOfTwo(t *testing.T) {
	d := made(t, 2)
	d.Write(0, full("a"))
	d.Flush()
	d.Write(0, full("b"))
	d.Write(1, full("c"))
	d.Crash([]bool{false, true}, -1, 0)
	isAs(t, "crashed", d, stands{2, 4, true})
	for at, want := range []string{full("a"), full("c")} {
		isRead(t, "crashed", d, at, want, api.OK)
		isSafe(t, "crashed", d, at, want)
	}
}

// crashed is a device of 3 sectors, one of which is safe, behind a crash in which three writes waited.
func crashed(t *testing.T, keep []bool, torn, cut int) *device.Device {
	t.Helper()
	d := made(t, 3)
	d.Write(1, full("x"))
	d.Flush()
	for at, s := range []string{"a", "b", "c"} {
		d.Write(at, full(s))
	}
	d.Crash(keep, torn, cut)
	isAs(t, "crashed", d, stands{3, 5, true})
	return d
}

// areSectors tells whether a crashed device's three sectors are other ones.
func areSectors(t *testing.T, what string, d *device.Device, want ...string) {
	t.Helper()
	for at, s := range want {
		isRead(t, what, d, at, s, api.OK)
		isSafe(t, what, d, at, s)
	}
}

// P6.3: which are kept: of a keep that has fewer, the others are lost; what it has beyond them keeps nothing.
func TestCrashKeeps(t *testing.T) {
	a, b, c, x := full("a"), full("b"), full("c"), full("x")
	yes, no := true, false
	for _, l := range []struct {
		keep []bool
		want [3]string
	}{
		{nil, [3]string{zeros, x, zeros}},
		{[]bool{}, [3]string{zeros, x, zeros}},
		{[]bool{yes}, [3]string{a, x, zeros}},
		{[]bool{no}, [3]string{zeros, x, zeros}},
		{[]bool{no, yes}, [3]string{zeros, b, zeros}},
		{[]bool{yes, no}, [3]string{a, x, zeros}},
		{[]bool{no, no, yes}, [3]string{zeros, x, c}},
		{[]bool{yes, no, yes}, [3]string{a, x, c}},
		{[]bool{yes, yes, yes}, [3]string{a, b, c}},
		{[]bool{no, no, no, yes, yes}, [3]string{zeros, x, zeros}},
		{[]bool{yes, yes, yes, no, yes}, [3]string{a, b, c}},
	} {
		what := fmt.Sprintf("keep %v", l.keep)
		was := fmt.Sprint(l.keep)
		for _, torn := range []int{-1, math.MinInt, 3, 4, math.MaxInt} {
			areSectors(t, what, crashed(t, l.keep, torn, 7), l.want[:]...)
		}
		if fmt.Sprint(l.keep) != was {
			t.Errorf("keep was changed from %s to %v", was, l.keep)
		}
	}
}

// P6.3: of the torn one, if it is kept, the first bytes alone are written.
func TestCrashTears(t *testing.T) {
	for _, cut := range []int{math.MinInt, -1, 0, 1, 7, 32, 63, 64, 65, 1000, math.MaxInt} {
		what := fmt.Sprintf("cut %d", cut)
		n := min(max(cut, 0), api.Size)
		all := []bool{true, true, true}
		areSectors(t, what, crashed(t, all, 0, cut), torn("a", n, "\x00"), full("b"), full("c"))
		areSectors(t, what, crashed(t, all, 1, cut), full("a"), torn("b", n, "x"), full("c"))
		areSectors(t, what, crashed(t, all, 2, cut), full("a"), full("b"), torn("c", n, "\x00"))
		areSectors(t, what+", lost", crashed(t, []bool{true, false, true}, 1, cut), full("a"), full("x"), full("c"))
		areSectors(t, what+", lost", crashed(t, []bool{true, true}, 2, cut), full("a"), full("b"), zeros)
	}
}

// P6.3: writes of one sector are kept in order, each over what the sector had by then.
func TestCrashOfOneSector(t *testing.T) {
	for _, l := range []struct {
		keep      []bool
		torn, cut int
		want      string
	}{
		{[]bool{true, true, true}, -1, 0, full("c")},
		{[]bool{true, true, false}, -1, 0, full("b")},
		{[]bool{true, false, true}, -1, 0, full("c")},
		{[]bool{true, false, false}, -1, 0, full("a")},
		{[]bool{false, true, false}, -1, 0, full("b")},
		{[]bool{false, false, false}, -1, 0, full("x")},
		{[]bool{true, true, true}, 2, 9, torn("c", 9, "b")},
		{[]bool{true, false, true}, 2, 9, torn("c", 9, "a")},
		{[]bool{false, false, true}, 2, 9, torn("c", 9, "x")},
		{[]bool{true, true, false}, 1, 9, torn("b", 9, "a")},
		{[]bool{true, true, true}, 1, 9, full("c")},
		{[]bool{true, false, false}, 0, 9, torn("a", 9, "x")},
		{[]bool{true, false, false}, 0, 0, full("x")},
	} {
		d := made(t, 2)
		d.Write(1, full("x"))
		d.Flush()
		for _, s := range []string{"a", "b", "c"} {
			d.Write(1, full(s))
		}
		d.Crash(l.keep, l.torn, l.cut)
		what := fmt.Sprintf("keep %v, torn %d, cut %d", l.keep, l.torn, l.cut)
		areSectors(t, what, d, zeros, l.want)
		isAs(t, what, d, stands{2, 5, true})
	}
}

// P6.3: a torn sector may be left with bytes 0 alone, in part or whole.
func TestCrashTearsToZero(t *testing.T) {
	d := made(t, 1)
	d.Write(0, torn("a", 5, "\x00"))
	d.Flush()
	d.Write(0, zeros)
	d.Crash([]bool{true}, 0, 4)
	areSectors(t, "one byte left", d, zeros[:4]+"a"+zeros[:59])
	d.Write(0, zeros)
	d.Crash([]bool{true}, 0, 5)
	areSectors(t, "all 0", d, zeros)
	d.Write(0, full("b"))
	d.Flush()
	areSectors(t, "written again", d, full("b"))
}

// P6.3: behind a crash, nothing that was lost comes back.
func TestLostStaysLost(t *testing.T) {
	d := made(t, 2)
	d.Write(0, full("a"))
	d.Crash(nil, 0, 64)
	d.Flush()
	areSectors(t, "flushed", d, zeros, zeros)
	d.Write(1, full("b"))
	d.Crash([]bool{true, true}, -1, 0)
	areSectors(t, "crashed again", d, zeros, full("b"))
	d.Crash([]bool{true, true}, 0, 0)
	areSectors(t, "crashed with nothing waiting", d, zeros, full("b"))
}
