package check_test

import (
	"fmt"
	"testing"

	"twinspan/api"
	"twinspan/check"
)

// P5.3: what was put is taken again, whatever stands behind.
func TestPutTaken(t *testing.T) {
	l := bodies()
	for i := range 256 {
		l = append(l, string([]byte{byte(i)}), string([]byte{byte(i), 0, byte(i)}))
	}
	l = append(l, text(65536), text(1<<20))
	for i, body := range l {
		s, e := check.Put(body)
		if e != api.OK {
			t.Errorf("Put of body %d: %v", i, e)
		}
		for j, behind := range behinds() {
			got, n, e := check.Take(s + behind)
			if got != body || n != len(s) || e != api.OK {
				t.Errorf("body %d, put and taken with text %d behind: %d bytes, %d, %v", i, j, len(got), n, e)
			}
		}
	}
}

// P5.3: what was put one behind the other is taken again, all of it.
func TestAllPutTaken(t *testing.T) {
	s := ""
	for i, body := range bodies() {
		isAll(t, fmt.Sprintf("the first %d that were put", i), s, bodies()[:i]...)
		one, _ := check.Put(body)
		s += one
	}
	isAll(t, "all that were put", s, bodies()...)
}

// P5.3: a record one byte of which is any other one is none: of its body, of its sum, of its letters, of its sizes.
func TestByteChanged(t *testing.T) {
	l := []string{"", "a", "ab", "\x00\x00", "\xff\xff\xff", text(40), "R\x00\x00\x00S\x00\x00\x00"}
	for i, body := range l {
		s, _ := check.Put(body)
		for at := range s {
			for other := range 256 {
				if s[at] == byte(other) {
					continue
				}
				changed := s[:at] + string([]byte{byte(other)}) + s[at+1:]
				what := fmt.Sprintf("body %d's record with byte %d %02x", i, at, other)
				isNone(t, what, changed)
				isNone(t, what+", and a record behind", changed+s)
			}
		}
	}
}

// P5.3: so it is with sums of fewer bytes, and of the greatest parts.
func TestByteChangedSums(t *testing.T) {
	for _, a := range edges() {
		for _, b := range edges() {
			s, _ := check.Put(bodyOf(a, b))
			for at := range s {
				for _, with := range []byte{1, 0x80, 0xff, s[at]} {
					if with == 0 {
						continue
					}
					changed := s[:at] + string([]byte{s[at] ^ with}) + s[at+1:]
					isNone(t, fmt.Sprintf("a record made for %04x and %04x, byte %d another one", b, a, at), changed)
				}
			}
		}
	}
}

// P5.3: so it is with long bodies, in which both parts go round.
func TestByteChangedLong(t *testing.T) {
	body := text(200000)
	s, _ := check.Put(body)
	for at := 0; at < len(s); at += 1009 {
		for _, with := range []byte{1, 0xff} {
			isNone(t, fmt.Sprintf("a record of 200000 bytes, byte %d another one", at), s[:at]+string([]byte{s[at] ^ with})+s[at+1:])
		}
	}
}
