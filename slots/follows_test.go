package slots_test

import (
	"fmt"
	"slices"
	"strings"
	"testing"

	"twinspan/api"
	"twinspan/device"
	"twinspan/slots"
)

// P7.4, the chapter's example: what was committed is there behind a crash.
func TestCommitAndCrash(t *testing.T) {
	d := device.New(3)
	x := isOpened(t, "a new device", d, stands{room: 64})
	isTold(t, "Commit", x.Commit("a"), api.OK)
	d.Crash(nil, 0, 0)
	isOpened(t, "behind a crash", d, stands{mark: markOf("a"), room: 64 - len(put("a"))}, "a")
}

// P7.4: whatever is committed without a crash is there.
func TestCommitAndOpen(t *testing.T) {
	d, x := committed(t, 400)
	var bodies []string
	for i := range 150 {
		bodies = append(bodies, strings.Repeat(string([]byte{byte(i)}), i*37%211))
		isTold(t, "Commit", x.Commit(bodies[i]), api.OK)
		m := markOf(bodies...)
		want := stands{mark: m, room: 398*64 - m.Bytes}
		y := isOpened(t, fmt.Sprintf("behind %d commits", i+1), d, want, bodies...)
		if i%3 == 0 {
			x = y
		}
	}
}

// crash is what a crash does with what waits.
type crash struct {
	keep      []bool
	torn, cut int
}

// crashes are those that keep each part of what waits, whole or with each one of it torn.
func crashes(waits int) []crash {
	var l []crash
	for bits := range 1 << waits {
		keep := make([]bool, waits)
		for i := range keep {
			keep[i] = bits>>i&1 == 1
		}
		l = append(l, crash{keep, -1, 0})
		for torn, kept := range keep {
			for _, cut := range []int{0, 1, 7, 8, 12, 16, 24, 40, 56, 57, 63, 64} {
				if kept {
					l = append(l, crash{keep, torn, cut})
				}
			}
		}
	}
	return l
}

// isThere tells whether a commit in which power went is there behind a crash: just when its mark, which is written when all else is safe, was kept whole.
func isThere(steps []api.Written, done int, c crash) bool {
	if done < len(steps)-2 {
		return false
	}
	return c.keep[0] && (c.torn != 0 || c.cut == 64)
}

// goesOn tells whether a log that was opened behind a crash doesn't take records any more, or loses some.
func goesOn(t *testing.T, what string, d *device.Device, x *slots.Slots, bodies []string) {
	t.Helper()
	room := d.Sectors()*64 - 128
	for _, record := range []string{"on", strings.Repeat("o", 90), "", "off"} {
		bodies = append(slices.Clone(bodies), record)
		isTold(t, what+": Commit, going on", x.Commit(record), api.OK)
		isAs(t, what+", gone on", x, stands{mark: markOf(bodies...), room: room - len(put(bodies...))})
		d.Crash([]bool{true, true}, 0, 9)
	}
	isOpened(t, what+", gone on", d, stands{mark: markOf(bodies...), room: room - len(put(bodies...))}, bodies...)
}

// crashesIn lets power go in a step of a commit, with each crash behind, and looks at the log that is opened anew.
func crashesIn(t *testing.T, bodies []string, record string, done int) {
	t.Helper()
	const sectors, room = 14, 12 * 64
	m, all := markOf(bodies...), append(slices.Clone(bodies), record)
	steps := stepsOf(m, put(all...))
	_, waits := after(make([]string, sectors), steps, done)
	for _, c := range crashes(len(waits)) {
		what := fmt.Sprintf("%d records, one of %d bytes, %d steps, %v", len(bodies), len(record), done, c)
		d, x := committed(t, sectors, bodies...)
		d.Arm(done)
		isTold(t, what, x.Commit(record), api.ErrPower)
		isAs(t, what, x, stands{m, room - m.Bytes, true})
		isNotOpened(t, what+", no power", d, api.ErrPower)
		d.Crash(c.keep, c.torn, c.cut)
		want := bodies
		if isThere(steps, done, c) {
			want = all
		}
		y := isOpened(t, what, d, stands{mark: markOf(want...), room: room - len(put(want...))}, want...)
		isAs(t, what+", the old one", x, stands{m, room - m.Bytes, true})
		goesOn(t, what, d, y, want)
		if t.Failed() {
			return
		}
	}
}

// P7.4: power goes at each step of a commit, and crashes keep, lose and tear what waits: the log opened anew has the records of all commits that told OK, and at most the one that was going on, whole, behind them; and it goes on.
func TestPowerAtEachStep(t *testing.T) {
	for _, bodies := range [][]string{{}, {"one"}, {size(t, 64, "a")}, {"one", size(t, 70, "y"), "three"}, {size(t, 30, "a"), size(t, 34, "b")}} {
		for _, n := range []int{12, 36, 64, 65, 130, 200} {
			record := size(t, n, "r")
			m := markOf(bodies...)
			for done := range stepsOf(m, put(append(slices.Clone(bodies), record)...)) {
				crashesIn(t, bodies, record, done)
			}
		}
	}
}

// P7.4: a torn mark over that of another Epoch leaves the other one, at each place where it may be torn.
func TestMarkTornAtEachPlace(t *testing.T) {
	for n := range 6 {
		bodies := []string{"a", "b", "c", "d", "e"}[:n]
		for cut := range 65 {
			d, x := committed(t, 5, bodies...)
			d.Arm(3)
			isTold(t, "torn", x.Commit("r"), api.ErrPower)
			d.Crash([]bool{true}, 0, cut)
			want := bodies
			if cut == 64 {
				want = append(slices.Clone(bodies), "r")
			}
			isOpened(t, fmt.Sprintf("%d records, torn at %d", n, cut), d, stands{mark: markOf(want...), room: 192 - len(put(want...))}, want...)
		}
	}
}

// P7.4: a log's last sector torn at each place, or kept, or lost, leaves the records that were there.
func TestLogTornAtEachPlace(t *testing.T) {
	bodies := []string{"one", size(t, 70, "y")}
	for cut := range 65 {
		for torn := range 3 {
			d, x := committed(t, 7, bodies...)
			d.Arm(3)
			isTold(t, "torn", x.Commit(size(t, 120, "r")), api.ErrPower)
			if n := len(d.Waiting()); n != 3 {
				t.Fatalf("%d writes wait, want 3", n)
			}
			d.Crash([]bool{true, true, true}, torn, cut)
			x = isOpened(t, fmt.Sprintf("sector %d torn at %d", torn, cut), d, stands{mark: markOf(bodies...), room: 320 - len(put(bodies...))}, bodies...)
			isTold(t, "Commit", x.Commit("r"), api.OK)
			all := append(slices.Clone(bodies), "r")
			isOpened(t, "gone on", d, stands{mark: markOf(all...), room: 320 - len(put(all...))}, all...)
		}
	}
}

// draw draws numbers by a fixed rule, so that each run has the same ones.
type draw uint64

func (r *draw) below(n int) int {
	*r = *r*6364136223846793005 + 1442695040888963407
	return int(uint64(*r)>>33) % n
}

// play is a log on its device, with what must be there: the bodies that were committed, and the one, if any, of the commit that told ErrPower.
type play struct {
	d      *device.Device
	x      *slots.Slots
	bodies []string
	last   []string
}

// commit commits a record, if the log takes one.
func (p *play) commit(t *testing.T, what, record string) {
	t.Helper()
	broken, full := p.x.Broken(), len(put(record)) > p.x.Room()
	e := p.x.Commit(record)
	switch {
	case broken:
		isTold(t, what+", broken", e, api.ErrState)
	case full:
		isTold(t, what+", full", e, api.ErrFull)
	case e == api.OK:
		p.bodies = append(p.bodies, record)
	default:
		isTold(t, what, e, api.ErrPower)
		p.last = append(slices.Clone(p.bodies), record)
	}
}

// reopen crashes the device, and opens the log anew.
func (p *play) reopen(t *testing.T, what string, c crash) {
	t.Helper()
	p.d.Crash(c.keep, c.torn, c.cut)
	x, l, e := slots.Open(p.d)
	isTold(t, what+", opened anew", e, api.OK)
	switch {
	case slices.Equal(l, p.bodies):
	case p.last != nil && slices.Equal(l, p.last):
	default:
		t.Fatalf("%s: the log has %q, want %q or %q", what, l, p.bodies, p.last)
	}
	p.x, p.bodies, p.last = x, l, nil
}

// P7.4: so it is along scripts in which power goes again and again.
func TestScripts(t *testing.T) {
	for n := range 300 {
		r := draw(n)
		sectors := 3 + r.below(40)
		d := device.New(sectors)
		p := &play{d: d}
		p.x, _, _ = slots.Open(d)
		for i := range 60 {
			what := fmt.Sprintf("script %d, call %d", n, i)
			switch r.below(6) {
			case 0:
				d.Arm(r.below(9))
			case 1:
				keep := []bool{r.below(3) > 0, r.below(3) > 0, r.below(2) > 0, r.below(2) > 0}
				p.reopen(t, what, crash{keep, r.below(6) - 1, r.below(70) - 3})
			default:
				p.commit(t, what, strings.Repeat(string([]byte{byte(r.below(256))}), r.below(20)*r.below(12)))
			}
			m := markOf(p.bodies...)
			isAs(t, what, p.x, stands{api.Mark{Epoch: m.Count, Bytes: m.Bytes, Count: m.Count}, 64*(sectors-2) - m.Bytes, p.last != nil})
		}
		p.reopen(t, fmt.Sprintf("script %d, its end", n), crash{})
	}
}

// R4: the same calls have the same answers.
func TestTheSameAgain(t *testing.T) {
	run := func() string {
		d, x := committed(t, 9, "a", "b", size(t, 70, "c"))
		d.Arm(4)
		told := fmt.Sprint(x.Commit(size(t, 80, "r")), d.Waiting())
		d.Crash([]bool{true}, 0, 60)
		_, l, e := slots.Open(d)
		return told + fmt.Sprint(l, e, allSafe(d))
	}
	if run() != run() {
		t.Errorf("the same calls told two things")
	}
}
