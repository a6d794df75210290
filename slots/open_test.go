package slots_test

import (
	"fmt"
	"slices"
	"strings"
	"testing"

	"twinspan/api"
	"twinspan/check"
	"twinspan/device"
	"twinspan/slots"
)

// stands is how a log stands.
type stands struct {
	mark   api.Mark
	room   int
	broken bool
}

// isAs tells whether a log stands in another way.
func isAs(t *testing.T, what string, x *slots.Slots, want stands) {
	t.Helper()
	if got := (stands{x.Mark(), x.Room(), x.Broken()}); got != want {
		t.Errorf("%s: mark, room, broken are %v, want %v", what, got, want)
	}
}

// isTold tells whether a call told another error.
func isTold(t *testing.T, what string, got, want api.Errno) {
	t.Helper()
	if got != want {
		t.Errorf("%s: told %d, want %d", what, got, want)
	}
}

// isOpened opens a log, and tells whether it has other records, or stands in another way.
func isOpened(t *testing.T, what string, d *device.Device, want stands, records ...string) *slots.Slots {
	t.Helper()
	steps, waits := d.Steps(), d.Waiting()
	x, l, e := slots.Open(d)
	if x == nil || e != api.OK {
		t.Fatalf("%s: Open told %d", what, e)
	}
	if !slices.Equal(l, records) {
		t.Errorf("%s: Open told the records %q, want %q", what, l, records)
	}
	isAs(t, what, x, want)
	if d.Steps() != steps || !slices.Equal(d.Waiting(), waits) {
		t.Errorf("%s: Open wrote to the device", what)
	}
	return x
}

// isNotOpened tells whether Open tells a log, or another error.
func isNotOpened(t *testing.T, what string, d *device.Device, want api.Errno) {
	t.Helper()
	steps, waits := d.Steps(), d.Waiting()
	if x, l, e := slots.Open(d); x != nil || len(l) > 0 || e != want {
		t.Errorf("%s: Open told %t, %d records, %d; want nothing, %d", what, x != nil, len(l), e, want)
	}
	if d.Steps() != steps || !slices.Equal(d.Waiting(), waits) {
		t.Errorf("%s: Open wrote to the device", what)
	}
}

// put are the records of bodies, one behind the other.
func put(bodies ...string) string {
	s := ""
	for _, body := range bodies {
		one, _ := check.Put(body)
		s += one
	}
	return s
}

// size is a body whose record has that many bytes, of at least 12.
func size(t *testing.T, n int, letter string) string {
	t.Helper()
	body := strings.Repeat(letter, n-12)
	// A sum may have fewer bytes than four: then another byte ahead gives it one that has.
	for c := byte('0'); len(put(body)) != n; c++ {
		if c > '9' {
			t.Fatalf("no body has a record of %d bytes", n)
		}
		body = string([]byte{c}) + body[1:]
	}
	return body
}

// laid is a device with these two sectors, and a text in those behind.
func laid(t *testing.T, sectors int, a, b, log string) *device.Device {
	t.Helper()
	d := device.New(sectors)
	s := a + b + log
	for at := 0; len(s) > 0; at++ {
		n := min(len(s), api.Size)
		isTold(t, "laid", d.Write(at, s[:n]+zeros[n:]), api.OK)
		s = s[n:]
	}
	isTold(t, "laid", d.Flush(), api.OK)
	return d
}

// P7.2: a new device has a log without records.
func TestOpenNew(t *testing.T) {
	for _, n := range []int{3, 4, 6, 100, 4096} {
		isOpened(t, fmt.Sprintf("a new device of %d", n), device.New(n), stands{room: 64 * (n - 2)})
	}
}

// P7.2: there is no log on nothing, or on fewer than 3 sectors, with power or without.
func TestOpenNone(t *testing.T) {
	isNotOpened(t, "nil", nil, api.ErrArg)
	isNotOpened(t, "a zero device", new(device.Device), api.ErrArg)
	for n := 1; n <= 3; n++ {
		d := device.New(n)
		if n < 3 {
			isNotOpened(t, fmt.Sprintf("%d sectors", n), d, api.ErrArg)
		}
		d.Arm(0)
		d.Flush()
		want := api.ErrArg
		if n == 3 {
			want = api.ErrPower
		}
		isNotOpened(t, fmt.Sprintf("%d sectors without power", n), d, want)
	}
}

// P7.2: without power there is the device's error, whatever the sectors have; with it again, there is the log.
func TestOpenWithoutPower(t *testing.T) {
	m := api.Mark{Epoch: 4, Bytes: len(put("a", "b")), Count: 2}
	d := laid(t, 5, sectorOf(m), zeros, put("a", "b"))
	bad := laid(t, 5, sectorOf(api.Mark{Epoch: 4, Bytes: 1 << 30, Count: 2}), zeros, "")
	for _, d := range []*device.Device{d, bad} {
		d.Arm(0)
		isTold(t, "Flush", d.Flush(), api.ErrPower)
		isNotOpened(t, "no power", d, api.ErrPower)
		d.Crash(nil, 0, 0)
	}
	isOpened(t, "power again", d, stands{mark: m, room: 3*64 - m.Bytes}, "a", "b")
	isNotOpened(t, "power again", bad, api.ErrForm)
}

// P7.2: an armed device is opened all the same: it takes no step.
func TestOpenArmed(t *testing.T) {
	m := api.Mark{Epoch: 1, Bytes: len(put("a")), Count: 1}
	d := laid(t, 3, zeros, sectorOf(m), put("a"))
	d.Arm(0)
	for range 3 {
		isOpened(t, "armed", d, stands{mark: m, room: 64 - m.Bytes}, "a")
	}
}

// P7.2: the newest mark of sectors 0 and 1 says how far the log is.
func TestOpenSays(t *testing.T) {
	const sectors, most = 8, 6 * 64
	bodies := []string{"one", strings.Repeat("y", 70), "", "three"}
	log := put(bodies...)
	mark := func(epoch, n int) api.Mark {
		return api.Mark{Epoch: epoch, Bytes: len(put(bodies[:n]...)), Count: n}
	}
	s := func(epoch, n int) string { return sectorOf(mark(epoch, n)) }
	torn := func(s string) string { return s[:63] + "\x7f" }
	for _, c := range []struct {
		what, a, b string
		epoch, n   int
	}{
		{"the first one", s(4, 3), s(3, 2), 4, 3},
		{"the second one", s(2, 1), s(3, 2), 3, 2},
		{"the same Epochs", s(5, 1), s(5, 4), 5, 1},
		{"the second one torn", s(2, 1), torn(s(3, 2)), 2, 1},
		{"the first one torn", torn(s(4, 3)), s(3, 2), 3, 2},
		{"both torn", torn(s(4, 3)), torn(s(3, 2)), 0, 0},
		{"one of two", s(9, 4), zeros, 9, 4},
		{"the other one of two", zeros, s(9, 4), 9, 4},
		{"none", zeros, zeros, 0, 0},
		{"no marks", strings.Repeat("\xff", 64), strings.Repeat("a", 64), 0, 0},
		{"Epoch 0", s(0, 2), s(0, 3), 0, 2},
		{"the greatest Epoch", s(1<<40, 2), s(1<<40-1, 3), 1 << 40, 2},
		{"an Epoch that is too great", s(1<<40+1, 2), s(1, 3), 1, 3},
	} {
		m := mark(c.epoch, c.n)
		d := laid(t, sectors, c.a, c.b, log)
		isOpened(t, c.what, d, stands{mark: m, room: most - m.Bytes}, bodies[:c.n]...)
		isOpened(t, c.what+", with bytes behind", laid(t, sectors, c.a, c.b, log+strings.Repeat("z", 64)), stands{mark: m, room: most - m.Bytes}, bodies[:c.n]...)
	}
}

// P7.2: a mark's Bytes may be as many as there are behind sector 1, and no more.
func TestOpenBytes(t *testing.T) {
	for sectors := 3; sectors <= 6; sectors++ {
		most := 64 * (sectors - 2)
		bodies := []string{size(t, 40, "a"), size(t, most-40, "b")}
		m := api.Mark{Epoch: 2, Bytes: most, Count: 2}
		d := laid(t, sectors, sectorOf(m), zeros, put(bodies...))
		isOpened(t, "a full log", d, stands{mark: m}, bodies...)
		for _, more := range []int{1, 2, 12, 63, 64, 65, 1 << 20, 1<<40 - most} {
			m := api.Mark{Epoch: 2, Bytes: most + more, Count: 2}
			d := laid(t, sectors, sectorOf(m), zeros, put(bodies...))
			isNotOpened(t, fmt.Sprintf("%d sectors, %d bytes too many", sectors, more), d, api.ErrForm)
		}
	}
}

// P7.2: a log as long as the greatest device allows is opened.
func TestOpenGreatest(t *testing.T) {
	const most = 4094 * 64
	bodies := []string{}
	for i := range 4094 {
		bodies = append(bodies, size(t, 64, string([]byte{byte('a' + i%26)})))
	}
	m := api.Mark{Epoch: 4094, Bytes: most, Count: 4094}
	log := put(bodies...)
	isOpened(t, "the greatest log", laid(t, 4096, sectorOf(m), zeros, log), stands{mark: m}, bodies...)
	one := size(t, most, "x")
	m.Count = 1
	isOpened(t, "the greatest record", laid(t, 4096, sectorOf(m), zeros, put(one)), stands{mark: m}, one)
	isNotOpened(t, "another Count", laid(t, 4096, sectorOf(m), zeros, log), api.ErrForm)
}

// P7.2: ErrForm, if a mark's Bytes are not Count records, just these.
func TestOpenForm(t *testing.T) {
	log := put("one", "two", strings.Repeat("y", 70))
	n := len(log)
	for _, c := range []struct {
		what         string
		bytes, count int
		log          string
		want         api.Errno
	}{
		{"as it is", n, 3, log, api.OK},
		{"a record behind", n, 3, log + put("z"), api.OK},
		{"two of three", len(put("one", "two")), 2, log, api.OK},
		{"none of three", 0, 0, log, api.OK},
		{"one byte fewer", n - 1, 3, log, api.ErrForm},
		{"one byte fewer, two records", n - 1, 2, log, api.ErrForm},
		{"one byte more", n + 1, 3, log, api.ErrForm},
		{"one byte more, of no record", n + 1, 3, log + "x", api.ErrForm},
		{"one byte more, of a record", n + 1, 3, log + put("z"), api.ErrForm},
		{"one byte more, one record more", n + 1, 4, log + put("z"), api.ErrForm},
		{"one record fewer", n, 2, log, api.ErrForm},
		{"one record more", n, 4, log, api.ErrForm},
		{"no record", n, 0, log, api.ErrForm},
		{"no bytes", 0, 3, log, api.ErrForm},
		{"no bytes, one record", 0, 1, log, api.ErrForm},
		{"very many records", n, 1 << 40, log, api.ErrForm},
		{"bytes 0", 64, 0, zeros, api.ErrForm},
		{"bytes 0, one record", 64, 1, zeros, api.ErrForm},
		{"one byte, no record", 1, 0, "x", api.ErrForm},
		{"no records, but bytes", 64, 2, strings.Repeat("R", 64), api.ErrForm},
	} {
		m := api.Mark{Epoch: 1, Bytes: c.bytes, Count: c.count}
		d := laid(t, 6, zeros, sectorOf(m), c.log)
		if x, _, e := slots.Open(d); e != c.want {
			t.Errorf("%s: Open told %d, want %d", c.what, e, c.want)
		} else if e == api.OK {
			isAs(t, c.what, x, stands{mark: m, room: 4*64 - c.bytes})
		}
		if c.want != api.OK {
			isNotOpened(t, c.what, d, c.want)
		}
	}
}

// P7.2: with any byte of its records another one a log is not opened; behind them it is.
func TestOpenTurned(t *testing.T) {
	bodies := []string{"one", "", strings.Repeat("y", 70), "last"}
	log := put(bodies...)
	m := api.Mark{Epoch: 3, Bytes: len(log), Count: len(bodies)}
	for at := range 3 * 64 {
		b := []byte(log + strings.Repeat("\x00", 3*64-len(log)))
		b[at] ^= byte(1 + at%255)
		d := laid(t, 5, zeros, sectorOf(m), string(b))
		if what := fmt.Sprintf("byte %d another one", at); at < len(log) {
			isNotOpened(t, what, d, api.ErrForm)
		} else {
			isOpened(t, what, d, stands{mark: m, room: 3*64 - len(log)}, bodies...)
		}
	}
}

// P7.2: what was written last is read, whether it is safe or not.
func TestOpenWaiting(t *testing.T) {
	m := api.Mark{Epoch: 1, Bytes: len(put("a")), Count: 1}
	d := device.New(4)
	d.Write(1, sectorOf(m))
	d.Write(2, put("a")+zeros[len(put("a")):])
	isOpened(t, "waiting", d, stands{mark: m, room: 128 - m.Bytes}, "a")
	d.Crash(nil, 0, 0)
	isOpened(t, "lost", d, stands{room: 128})
}

// R3: the records that are told are their owner's.
func TestOpenTellsAnew(t *testing.T) {
	log := put("a", "b")
	m := api.Mark{Epoch: 2, Bytes: len(log), Count: 2}
	d := laid(t, 4, sectorOf(m), zeros, log)
	x, l, _ := slots.Open(d)
	l[0], l[1] = "x", "y"
	l = append(l[:1], "z", "z")
	isTold(t, "Commit", x.Commit("c"), api.OK)
	m = api.Mark{Epoch: 3, Bytes: len(put("a", "b", "c")), Count: 3}
	isOpened(t, "anew", d, stands{mark: m, room: 128 - m.Bytes}, "a", "b", "c")
	if !slices.Equal(l, []string{"x", "z", "z"}) {
		t.Errorf("the records that were told are %q now", l)
	}
}
