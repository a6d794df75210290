package check_test

import (
	"fmt"
	"slices"
	"strings"
	"testing"

	"twinspan/check"
)

// put is the records of bodies, one behind the other.
func put(l ...string) string {
	s := ""
	for _, body := range l {
		s += record(body)
	}
	return s
}

// isAll tells what isn't so of the records with which s should begin.
func isAll(t *testing.T, what, s string, want ...string) {
	t.Helper()
	l, n := check.All(s)
	if !slices.Equal(l, want) || n != len(put(want...)) {
		t.Errorf("All of %s: %d bodies, %d; want %d, %d", what, len(l), n, len(want), len(put(want...)))
		return
	}
	if put(l...) != s[:n] {
		t.Errorf("All of %s: its first %d bytes are not the records of what was told", what, n)
	}
}

// broken are texts that begin with no record.
func broken() []string {
	s := record("broken")
	changed := func(at int) string {
		return s[:at] + string([]byte{s[at] ^ 1}) + s[at+1:]
	}
	return []string{
		"", "z", "R", "\x00", s[:3], s[:4], s[:7], s[:10], s[:14], s[:len(s)-1], // cut short
		changed(0), changed(3), changed(6), changed(10), changed(13), changed(len(s) - 1), // another byte
		field('R', "broken"), field('S', "\x01"), field('T', "") + s, strings.Repeat("\x00", 64),
	}
}

// P5.2: none, one and several, with nothing behind, and with what is no record.
func TestAll(t *testing.T) {
	for i, s := range broken() {
		what := fmt.Sprintf(", and broken %d", i)
		isAll(t, "nothing"+what, s)
		isAll(t, "one"+what, put("ab")+s, "ab")
		isAll(t, "an empty one"+what, put("")+s, "")
		isAll(t, "three"+what, put("a", "", "bc")+s, "a", "", "bc")
		isAll(t, "three alike"+what, put("a", "a", "a")+s, "a", "a", "a")
		isAll(t, "all bodies"+what, put(bodies()...)+s, bodies()...)
	}
}

// P5.2: behind a broken one nothing is told, whatever stands there.
func TestAllBroken(t *testing.T) {
	for i, s := range broken()[1:] {
		isAll(t, fmt.Sprintf("broken %d, and two", i+1), s+put("c", "d"))
		isAll(t, fmt.Sprintf("two, broken %d, and two", i+1), put("a", "")+s+put("c", "d"), "a", "")
		isAll(t, fmt.Sprintf("a record in a record, and broken %d", i+1), put(put("a"))+s, put("a"))
	}
}

// P5.2: several records, cut short at each place: those that are whole are told.
func TestAllCut(t *testing.T) {
	l := []string{"ab", "", "c", text(20), ""}
	s := put(l...)
	whole := 0
	for cut := range len(s) + 1 {
		if whole < len(l) && cut == len(put(l[:whole+1]...)) {
			whole++
		}
		isAll(t, fmt.Sprintf("several, cut to %d bytes", cut), s[:cut], l[:whole]...)
	}
}

// P5.2: one byte of several records is another one: those ahead of it are told.
func TestAllChanged(t *testing.T) {
	l := []string{"ab", "", "c", text(20), ""}
	s := put(l...)
	ahead := 0
	for at := range s {
		if at == len(put(l[:ahead+1]...)) {
			ahead++
		}
		for _, with := range []byte{1, 0x80, 0xff} {
			isAll(t, fmt.Sprintf("several, byte %d another one", at), s[:at]+string([]byte{s[at] ^ with})+s[at+1:], l[:ahead]...)
		}
	}
}

// P5.2: very many records, and very long ones.
func TestAllLong(t *testing.T) {
	const many = 1 << 20
	s := strings.Repeat(record("r"), many)
	for _, behind := range []string{"", "z", s[:5]} {
		l, n := check.All(s + behind)
		if len(l) != many || n != len(s) || slices.ContainsFunc(l, func(body string) bool { return body != "r" }) {
			t.Errorf("All of 2^20 records, % x behind: %d, %d", behind, len(l), n)
		}
	}
	long := text(1 << 20)
	isAll(t, "long ones", put(long, long[1:], "", long), long, long[1:], "", long)
}

// R3: what is told is its owner's: it shares nothing with what is told later.
func TestAllTold(t *testing.T) {
	s := put("a", "b", "c")
	one, _ := check.All(s)
	two, _ := check.All(s)
	one[0] = "x"
	_ = append(one[:1], "y")
	if want := []string{"a", "b", "c"}; !slices.Equal(two, want) {
		t.Errorf("the second list became %q", two)
	}
	isAll(t, "what was told and changed", s, "a", "b", "c")
}
