package device_test

import (
	"fmt"
	"slices"
	"testing"

	"twinspan/api"
	"twinspan/device"
)

// plain is a device as its chapter's words have it, sector by sector.
type plain struct {
	safe  []string
	waits []api.Written
	on    bool
	left  int // below 0: it is not armed.
	steps int
}

func newPlain(sectors int) *plain {
	p := &plain{on: true, left: -1}
	for range sectors {
		p.safe = append(p.safe, zeros)
	}
	return p
}

func (p *plain) read(at int) (string, api.Errno) {
	switch {
	case !p.on:
		return "", api.ErrPower
	case at < 0 || at >= len(p.safe):
		return "", api.ErrArg
	}
	for _, w := range slices.Backward(p.waits) {
		if w.At == at {
			return w.S, api.OK
		}
	}
	return p.safe[at], api.OK
}

// goes tells whether power goes in a step.
func (p *plain) goes() bool {
	if p.left == 0 {
		p.on = false
		return true
	}
	p.left = max(p.left-1, -1)
	p.steps++
	return false
}

func (p *plain) write(at int, s string) api.Errno {
	switch {
	case !p.on:
		return api.ErrPower
	case at < 0 || at >= len(p.safe) || len(s) != api.Size:
		return api.ErrArg
	}
	p.waits = append(p.waits, api.Written{At: at, S: s})
	if p.goes() {
		return api.ErrPower
	}
	return api.OK
}

func (p *plain) flush() api.Errno {
	if !p.on || p.goes() {
		return api.ErrPower
	}
	for _, w := range p.waits {
		p.safe[w.At] = w.S
	}
	p.waits = nil
	return api.OK
}

func (p *plain) crash(keep []bool, torn, cut int) {
	for i, w := range p.waits {
		if i >= len(keep) || !keep[i] {
			continue
		}
		n := api.Size
		if i == torn {
			n = min(max(cut, 0), api.Size)
		}
		p.safe[w.At] = w.S[:n] + p.safe[w.At][n:]
	}
	p.waits, p.on, p.left = nil, true, -1
}

// draw draws numbers by a fixed rule, so that each run has the same ones.
type draw uint64

func (r *draw) below(n int) int {
	*r = *r*6364136223846793005 + 1442695040888963407
	return int(uint64(*r)>>33) % n
}

// text is a sector's text, one in four of bytes 0, one in ten of another size.
func (r *draw) text() string {
	s := full(string([]byte{"\x00abcdefghijk"[r.below(4)*r.below(4)]}))
	switch r.below(20) {
	case 0:
		return s[1:]
	case 1:
		return s + "x"
	}
	return s
}

// keep is what a crash keeps.
func (r *draw) keep(many int) []bool {
	l := make([]bool, r.below(many+3))
	for i := range l {
		l[i] = r.below(3) > 0
	}
	return l
}

// areAlike tells whether a device stands as the plain one does.
func areAlike(t *testing.T, what string, d *device.Device, p *plain) {
	t.Helper()
	isAs(t, what, d, stands{len(p.safe), p.steps, p.on}, p.waits...)
	for at := -1; at <= len(p.safe); at++ {
		want, e := p.read(at)
		isRead(t, what, d, at, want, e)
		if at >= 0 && at < len(p.safe) {
			isSafe(t, what, d, at, p.safe[at])
		}
	}
}

// onward does one more call of a script on both.
func onward(t *testing.T, what string, r *draw, d *device.Device, p *plain) {
	t.Helper()
	switch r.below(8) {
	case 0, 1, 2, 3:
		at, s := r.below(len(p.safe)+2)-1, r.text()
		isTold(t, what+": Write", d.Write(at, s), p.write(at, s))
	case 4, 5:
		isTold(t, what+": Flush", d.Flush(), p.flush())
	case 6:
		if r.below(2) == 0 {
			n := r.below(8) - 1
			d.Arm(n)
			p.left = max(n, 0)
		}
	case 7:
		if r.below(3) == 0 || !d.On() {
			keep, torn, cut := r.keep(len(p.waits)), r.below(len(p.waits)+3)-1, r.below(70)-3
			d.Crash(keep, torn, cut)
			p.crash(keep, torn, cut)
		}
	}
}

// P6.2, P6.3: a device stands as the chapter's words have it, at each step of many scripts.
func TestScripts(t *testing.T) {
	for n := range 200 {
		r := draw(n)
		sectors := 1 + n%5
		d, p := made(t, sectors), newPlain(sectors)
		for i := range 120 {
			what := fmt.Sprintf("script %d, call %d", n, i)
			onward(t, what, &r, d, p)
			areAlike(t, what, d, p)
			if t.Failed() {
				return
			}
		}
	}
}

// R4: the same calls have the same answers.
func TestTheSameAgain(t *testing.T) {
	run := func() string {
		r := draw(7)
		d, p := made(t, 4), newPlain(4)
		told := ""
		for range 100 {
			onward(t, "again", &r, d, p)
			told += fmt.Sprintf("%v%q%d%t", d.Waiting(), d.Safe(1), d.Steps(), d.On())
		}
		return told
	}
	if run() != run() {
		t.Errorf("the same script told two things")
	}
}

// P6.4: what was flushed, and not written since, is there behind any crash, wherever power went.
func TestWhatWasSafeIsThere(t *testing.T) {
	for steps := range 6 {
		for keeps := range 32 {
			d := made(t, 4)
			d.Write(0, full("a"))
			d.Write(3, full("d"))
			d.Flush()
			d.Arm(steps)
			d.Write(1, full("b"))
			d.Write(2, full("c"))
			d.Write(1, full("e"))
			d.Flush()
			keep := []bool{}
			for i := range 5 {
				keep = append(keep, keeps>>i&1 == 1)
			}
			d.Crash(keep, keeps%4-1, steps*16)
			what := fmt.Sprintf("%d steps, keep %v", steps, keep)
			isRead(t, what, d, 0, full("a"), api.OK)
			isRead(t, what, d, 3, full("d"), api.OK)
			isSafe(t, what, d, 0, full("a"))
			d.Crash(keep, 0, 0)
			isRead(t, what+", again", d, 3, full("d"), api.OK)
			if steps > 3 {
				isRead(t, what+", flushed", d, 1, full("e"), api.OK)
				isRead(t, what+", flushed", d, 2, full("c"), api.OK)
			}
		}
	}
}

// P6.4: all sectors that were flushed are there, of the greatest device too, and those written back to 0 are 0.
func TestGreatestDevice(t *testing.T) {
	d := made(t, api.MaxSectors)
	s := func(at int) string { return full(string([]byte{byte(at % 251)})) }
	for at := range api.MaxSectors {
		isTold(t, "Write", d.Write(at, s(at)), api.OK)
	}
	d.Flush()
	for at := 0; at < api.MaxSectors; at += 2 {
		d.Write(at, zeros)
	}
	d.Flush()
	for at := range api.MaxSectors {
		d.Write(at, full("\xff"))
	}
	d.Crash(nil, 0, 64)
	for at := range api.MaxSectors {
		want := s(at)
		if at%2 == 0 {
			want = zeros
		}
		isRead(t, "crashed", d, at, want, api.OK)
		isSafe(t, "crashed", d, at, want)
	}
	isAs(t, "crashed", d, stands{api.MaxSectors, 2*api.MaxSectors + api.MaxSectors/2 + 2, true})
}

// R5: many writes may wait, and a Read tells the last one of its sector.
func TestManyWait(t *testing.T) {
	d := made(t, 64)
	const many = 200000
	keep := make([]bool, many)
	for i := range many {
		s := torn(string([]byte{byte(i)}), 32, string([]byte{byte(i >> 8)}))
		d.Write(i%64, s)
		if got, e := d.Read(i % 64); got != s || e != api.OK {
			t.Fatalf("Read behind %d writes: %q, %d", i+1, got, e)
		}
		keep[i] = i < many-64
	}
	if n := len(d.Waiting()); n != many {
		t.Errorf("%d wait, want %d", n, many)
	}
	want, _ := d.Read(5)
	d.Crash(keep, -1, 0)
	if got, _ := d.Read(5); got == want {
		t.Errorf("what was lost is there")
	}
	i := many - 128 + 5
	isRead(t, "crashed", d, i%64, torn(string([]byte{byte(i)}), 32, string([]byte{byte(i >> 8)})), api.OK)
}
