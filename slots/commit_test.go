package slots_test

import (
	"fmt"
	"slices"
	"strings"
	"testing"

	"twinspan/api"
	"twinspan/device"
	"twinspan/slots"
)

// flush stands among writes for the step in which what waits is flushed.
const flush = -1

// stepsOf are the steps of a commit, by the chapter's words: of a log that has this mark, of its bytes as they are then.
func stepsOf(m api.Mark, log string) []api.Written {
	var l []api.Written
	for at := m.Bytes / 64; at*64 < len(log); at++ {
		s := log[at*64 : min(len(log), at*64+64)]
		l = append(l, api.Written{At: 2 + at, S: s + zeros[len(s):]})
	}
	n := api.Mark{Epoch: m.Epoch + 1, Bytes: len(log), Count: m.Count + 1}
	return append(l, api.Written{At: flush}, api.Written{At: n.Epoch % 2, S: sectorOf(n)}, api.Written{At: flush})
}

// after is what is safe of a device, and what waits, when so many of these steps are done; of the step behind them, in which power goes, a write waits as well.
func after(safe []string, steps []api.Written, done int) ([]string, []api.Written) {
	safe = slices.Clone(safe)
	var waits []api.Written
	for i, s := range steps {
		switch {
		case i > done || i == done && s.At == flush:
			return safe, waits
		case s.At != flush:
			waits = append(waits, s)
		default:
			for _, w := range waits {
				safe[w.At] = w.S
			}
			waits = nil
		}
	}
	return safe, waits
}

// allSafe is what is safe of each sector.
func allSafe(d *device.Device) []string {
	var l []string
	for at := range d.Sectors() {
		l = append(l, d.Safe(at))
	}
	return l
}

// haveDone tells whether a device has other things safe, or waiting, than when so many of these steps are done.
func haveDone(t *testing.T, what string, d *device.Device, had []string, steps []api.Written, done int) {
	t.Helper()
	safe, waits := after(had, steps, done)
	if got := d.Waiting(); !slices.Equal(got, waits) {
		t.Errorf("%s: these wait: %v; want %v", what, got, waits)
	}
	for at, s := range allSafe(d) {
		if s != safe[at] {
			t.Errorf("%s: sector %d has %q, want %q", what, at, s, safe[at])
		}
	}
}

// committed is a device of that many sectors, and a log on it to which these bodies were committed.
func committed(t *testing.T, sectors int, bodies ...string) (*device.Device, *slots.Slots) {
	t.Helper()
	d := device.New(sectors)
	x, _, _ := slots.Open(d)
	for i, body := range bodies {
		isTold(t, fmt.Sprintf("Commit of body %d", i), x.Commit(body), api.OK)
	}
	return d, x
}

// markOf is the mark of a log to which these bodies were committed, one behind the other.
func markOf(bodies ...string) api.Mark {
	return api.Mark{Epoch: len(bodies), Bytes: len(put(bodies...)), Count: len(bodies)}
}

// commits makes a commit to a log of these bodies as often as it has steps, power going in each of them, and then whole.
func commits(t *testing.T, what string, sectors int, bodies []string, record string) {
	t.Helper()
	m, all := markOf(bodies...), append(slices.Clone(bodies), record)
	steps := stepsOf(m, put(all...))
	was := stands{mark: m, room: 64*(sectors-2) - m.Bytes}
	for done := range len(steps) + 1 {
		d, x := committed(t, sectors, bodies...)
		what := fmt.Sprintf("%s, %d steps", what, done)
		isAs(t, what+", ahead", x, was)
		had, n := allSafe(d), d.Steps()
		d.Arm(done)
		got := x.Commit(record)
		haveDone(t, what, d, had, steps, done)
		if d.Steps()-n != done {
			t.Errorf("%s: %d happened", what, d.Steps()-n)
		}
		if done < len(steps) {
			isTold(t, what, got, api.ErrPower)
			isAs(t, what, x, stands{was.mark, was.room, true})
			continue
		}
		isTold(t, what, got, api.OK)
		isAs(t, what, x, stands{mark: markOf(all...), room: 64*(sectors-2) - len(put(all...))})
	}
}

// P7.3: which sectors a commit writes, in which order, with which bytes, and when it flushes: of records of each length around a sector's end, behind logs that end at each place around one.
func TestCommitSteps(t *testing.T) {
	for _, bodies := range [][]string{
		{},
		{""},
		{"one", "two"},
		{size(t, 63, "a")},
		{size(t, 64, "a")},
		{size(t, 65, "a")},
		{size(t, 40, "a"), size(t, 24, "b")},
		{size(t, 127, "a"), size(t, 12, "b"), "c"},
		{size(t, 128, "a"), size(t, 64, "b")},
		{size(t, 200, "a"), size(t, 50, "b"), "c", "", "d"},
	} {
		for n := 12; n <= 140; n++ {
			commits(t, fmt.Sprintf("a record of %d bytes behind %v", n, markOf(bodies...)), 9, bodies, size(t, n, "r"))
		}
	}
}

// P7.3: an empty record is one, and so is one of bytes 0.
func TestCommitEmpty(t *testing.T) {
	for _, record := range []string{"", "\x00", strings.Repeat("\x00", 52), strings.Repeat("\x00", 64), "R\x00\x00\x00", put("a", "b")} {
		commits(t, fmt.Sprintf("%q", record), 7, []string{"one"}, record)
		d, _ := committed(t, 7, "", record, "", record)
		m := markOf("", record, "", record)
		isOpened(t, fmt.Sprintf("%q", record), d, stands{mark: m, room: 5*64 - m.Bytes}, "", record, "", record)
	}
}

// P7.3: the mark goes to sectors 0 and 1 in turn, the first one to sector 1; the other one's stays.
func TestCommitInTurn(t *testing.T) {
	d, x := committed(t, 20)
	var bodies []string
	for i := range 30 {
		other := d.Safe(i % 2)
		bodies = append(bodies, string([]byte{byte('a' + i)}))
		isTold(t, "Commit", x.Commit(bodies[i]), api.OK)
		m := markOf(bodies...)
		isAs(t, "in turn", x, stands{mark: m, room: 18*64 - m.Bytes})
		if got := d.Safe((i + 1) % 2); got != sectorOf(m) {
			t.Errorf("behind commit %d sector %d has %x, want %x", i+1, (i+1)%2, got, sectorOf(m))
		}
		if got := d.Safe(i % 2); got != other {
			t.Errorf("commit %d changed sector %d too, to %x", i+1, i%2, got)
		}
	}
}

// P7.3: which sector a mark goes to hangs on its Epoch alone, not on where the newest one stands, or how many records there are.
func TestCommitByEpoch(t *testing.T) {
	log := put("a", "b")
	for _, epoch := range []int{0, 1, 2, 7, 254, 255, 1<<32 - 1, 1<<40 - 2, 1<<40 - 1} {
		m := api.Mark{Epoch: epoch, Bytes: len(log), Count: 2}
		for side := range 2 {
			l := []string{strings.Repeat("\xff", 64), strings.Repeat("\xff", 64)}
			l[side] = sectorOf(m)
			if epoch == 0 && side == 1 {
				// The first one of Epoch 0, which is none, is the newest.
				continue
			}
			d := laid(t, 5, l[0], l[1], log)
			x := isOpened(t, "laid", d, stands{mark: m, room: 192 - m.Bytes}, "a", "b")
			had := allSafe(d)
			steps := stepsOf(m, log+put("c"))
			isTold(t, "Commit", x.Commit("c"), api.OK)
			haveDone(t, fmt.Sprintf("Epoch %d in sector %d", epoch, side), d, had, steps, len(steps))
			isAs(t, "committed", x, stands{mark: api.Mark{Epoch: epoch + 1, Bytes: len(log + put("c")), Count: 3}, room: 192 - len(log+put("c"))})
		}
	}
}

// P7.3: whatever stands behind a log's bytes in the sectors that are written is 0 then; further sectors are left alone.
func TestCommitOverOthers(t *testing.T) {
	for _, first := range []int{12, 40, 63, 64, 65, 100} {
		for _, second := range []int{12, 24, 52, 63, 64, 65, 128, 130} {
			body, record := size(t, first, "a"), size(t, second, "b")
			m := api.Mark{Epoch: 6, Bytes: first, Count: 1}
			d := laid(t, 9, sectorOf(m), zeros, put(body)+strings.Repeat("\xee", 7*64-first))
			x := isOpened(t, "laid", d, stands{mark: m, room: 7*64 - first}, body)
			had, n := allSafe(d), d.Steps()
			steps := stepsOf(m, put(body, record))
			isTold(t, "Commit", x.Commit(record), api.OK)
			haveDone(t, fmt.Sprintf("%d bytes behind %d", second, first), d, had, steps, len(steps))
			if d.Steps()-n != len(steps) {
				t.Errorf("%d bytes behind %d: %d steps, want %d", second, first, d.Steps()-n, len(steps))
			}
		}
	}
}

// isRefused tells whether a commit does something, or tells another error.
func isRefused(t *testing.T, what string, d *device.Device, x *slots.Slots, record string, want api.Errno) {
	t.Helper()
	was := stands{x.Mark(), x.Room(), x.Broken()}
	safe, waits, steps, on := allSafe(d), d.Waiting(), d.Steps(), d.On()
	isTold(t, what, x.Commit(record), want)
	isAs(t, what, x, was)
	if !slices.Equal(allSafe(d), safe) || !slices.Equal(d.Waiting(), waits) || d.Steps() != steps || d.On() != on {
		t.Errorf("%s: something happened", what)
	}
}

// P7.3: a record that just fits is committed; one of one byte more is not, and nothing happens: smaller ones are committed then.
func TestCommitFull(t *testing.T) {
	for sectors := 3; sectors <= 6; sectors++ {
		for _, had := range []int{0, 12, 13, 40, 51} {
			var bodies []string
			if had > 0 {
				bodies = append(bodies, size(t, had, "a"))
			}
			room := 64*(sectors-2) - had
			what := fmt.Sprintf("%d sectors, %d bytes", sectors, had)
			d, x := committed(t, sectors, bodies...)
			for _, more := range []int{1, 2, 12, 64, 1000, 1 << 19} {
				isRefused(t, what+", too much", d, x, size(t, room+more, "b"), api.ErrFull)
			}
			d.Arm(0)
			isRefused(t, what+", too much, armed", d, x, size(t, room+1, "b"), api.ErrFull)
			d.Crash(nil, 0, 0)
			commits(t, what+", just so much", sectors, bodies, size(t, room, "b"))
			isTold(t, what, x.Commit(size(t, room, "b")), api.OK)
			all := append(bodies, size(t, room, "b"))
			isAs(t, what+", full", x, stands{mark: markOf(all...)})
			isRefused(t, what+", full", d, x, "", api.ErrFull)
			isOpened(t, what+", full", d, stands{mark: markOf(all...)}, all...)
		}
	}
}

// P7.3: with less room than the smallest record has, no record is committed.
func TestCommitLittleRoom(t *testing.T) {
	for room := range 12 {
		body := size(t, 128-room, "a")
		d, x := committed(t, 4, body)
		isAs(t, "little room", x, stands{mark: markOf(body), room: room})
		isRefused(t, "little room", d, x, "", api.ErrFull)
		y := isOpened(t, "little room", d, stands{mark: markOf(body), room: room}, body)
		isRefused(t, "little room, opened anew", d, y, "", api.ErrFull)
	}
}

// P7.3: the greatest device takes one record that fills it, and many.
func TestCommitGreatest(t *testing.T) {
	const room = 4094 * 64
	body := size(t, room, "a")
	d, x := committed(t, 4096)
	isRefused(t, "a byte too long", d, x, body+"a", api.ErrFull)
	isTold(t, "Commit", x.Commit(body), api.OK)
	isOpened(t, "one record", d, stands{mark: markOf(body)}, body)
	d, x = committed(t, 4096)
	var bodies []string
	for n := 12; x.Room() >= n; n += 3 {
		bodies = append(bodies, size(t, n, "b"))
		isTold(t, "Commit", x.Commit(bodies[len(bodies)-1]), api.OK)
	}
	isOpened(t, "many records", d, stands{mark: markOf(bodies...), room: room - len(put(bodies...))}, bodies...)
}

// P7.3: of a record that is too long for check.Put ErrSize is told, ahead of ErrFull.
func TestCommitTooLong(t *testing.T) {
	d, x := committed(t, 4, "a")
	full, y := committed(t, 3, size(t, 64, "a"))
	for _, n := range []int{1<<20 + 1, 1<<20 + 2, 1 << 21, 1<<24 + 1} {
		isRefused(t, "too long", d, x, strings.Repeat("r", n), api.ErrSize)
		isRefused(t, "too long, full", full, y, strings.Repeat("r", n), api.ErrSize)
	}
	for _, n := range []int{1<<20 - 1, 1 << 20} {
		isRefused(t, "not too long", d, x, strings.Repeat("r", n), api.ErrFull)
	}
	isTold(t, "Commit", x.Commit("b"), api.OK)
	isOpened(t, "anew", d, stands{mark: markOf("a", "b"), room: 128 - len(put("a", "b"))}, "a", "b")
}

// P7.3: a log that is broken tells ErrState, ahead of all else, and stays broken, with power or without.
func TestCommitBroken(t *testing.T) {
	for done := range 4 {
		d, x := committed(t, 5, "a")
		d.Arm(done)
		isTold(t, "power went", x.Commit("b"), api.ErrPower)
		for _, record := range []string{"", "b", strings.Repeat("r", 1000), strings.Repeat("r", 1<<20+1)} {
			isRefused(t, "broken, no power", d, x, record, api.ErrState)
		}
		isAs(t, "broken", x, stands{markOf("a"), 192 - len(put("a")), true})
		d.Crash(nil, 0, 0)
		for _, record := range []string{"", "b", strings.Repeat("r", 1000), strings.Repeat("r", 1<<20+1)} {
			isRefused(t, "broken, power again", d, x, record, api.ErrState)
		}
		isAs(t, "broken, power again", x, stands{markOf("a"), 192 - len(put("a")), true})
	}
}

// P7.3: without power at the beginning, the device's error is told of what could be written, and the log is broken; what couldn't does not touch the device.
func TestCommitWithoutPower(t *testing.T) {
	d, x := committed(t, 5, "a")
	d.Arm(0)
	d.Flush()
	isRefused(t, "too long", d, x, strings.Repeat("r", 1<<20+1), api.ErrSize)
	isRefused(t, "too much", d, x, strings.Repeat("r", 200), api.ErrFull)
	isAs(t, "not broken yet", x, stands{mark: markOf("a"), room: 192 - len(put("a"))})
	isTold(t, "no power", x.Commit("b"), api.ErrPower)
	isAs(t, "broken", x, stands{markOf("a"), 192 - len(put("a")), true})
	if len(d.Waiting()) > 0 {
		t.Errorf("these wait: %v", d.Waiting())
	}
	d.Crash(nil, 0, 0)
	isOpened(t, "anew", d, stands{mark: markOf("a"), room: 192 - len(put("a"))}, "a")
}

// P7.3: a crash between two commits, in which nothing waits, breaks nothing.
func TestCrashBetween(t *testing.T) {
	d, x := committed(t, 5, "a")
	d.Crash([]bool{true}, 0, 3)
	isTold(t, "Commit", x.Commit("b"), api.OK)
	d.Arm(0)
	d.Flush()
	d.Crash(nil, 0, 0)
	isTold(t, "Commit", x.Commit("c"), api.OK)
	m := markOf("a", "b", "c")
	isAs(t, "crashed between", x, stands{mark: m, room: 192 - m.Bytes})
	isOpened(t, "crashed between", d, stands{mark: m, room: 192 - m.Bytes}, "a", "b", "c")
}

// everyCall makes every call of a log that takes no records, and looks at what it tells.
func everyCall(t *testing.T, what string, x *slots.Slots, e api.Errno) {
	t.Helper()
	for _, record := range []string{"", "a", strings.Repeat("r", 1<<20+1)} {
		isTold(t, what+": Commit", x.Commit(record), e)
		isAs(t, what, x, stands{broken: true})
	}
}

// R1, P7.4: a nil log tells ErrArg, nothing, 0 and true; a zero one is broken.
func TestNilAndZero(t *testing.T) {
	everyCall(t, "a nil log", nil, api.ErrArg)
	everyCall(t, "a zero log", new(slots.Slots), api.ErrState)
	x, _, _ := slots.Open(device.New(2))
	everyCall(t, "what Open told with an error", x, api.ErrArg)
}
