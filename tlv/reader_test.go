package tlv_test

import (
	"fmt"
	"math"
	"slices"
	"strings"
	"testing"

	"twinspan/api"
	"twinspan/tlv"
)

// calls are what may be read of a reader, each at the letter n and with bounds that nothing is above.
var calls = []struct {
	name string
	told func(r *tlv.Reader) bool // did it tell anything?
}{
	{"Num", func(r *tlv.Reader) bool { return r.Num('n') != 0 }},
	{"Int", func(r *tlv.Reader) bool { return r.Int('n', math.MaxInt) != 0 }},
	{"Text", func(r *tlv.Reader) bool { return r.Text('n', math.MaxInt) != "" }},
	{"All", func(r *tlv.Reader) bool { return len(r.All('n', math.MaxInt, math.MaxInt)) != 0 }},
}

// isBad tells a fault of a reader that is to be bad, and to stay so.
func isBad(t *testing.T, what string, r *tlv.Reader) {
	t.Helper()
	for round := range 2 {
		letter, more := r.Next()
		if letter != 0 || more || r.Left() != 0 || r.Good() || r.End() != api.ErrForm {
			t.Errorf("%s, round %d: Next %d %v, Left %d, Good %v, End %d, want those of a bad reader", what, round, letter, more, r.Left(), r.Good(), r.End())
		}
		for _, c := range calls {
			if c.told(r) {
				t.Errorf("%s, round %d: %s tells something", what, round, c.name)
			}
		}
	}
}

// isDone tells a fault of a reader that is to be good, and at its end.
func isDone(t *testing.T, what string, r *tlv.Reader) {
	t.Helper()
	letter, more := r.Next()
	if letter != 0 || more || r.Left() != 0 || !r.Good() || r.End() != api.OK {
		t.Errorf("%s: Next %d %v, Left %d, Good %v, End %d, want those of a good reader at its end", what, letter, more, r.Left(), r.Good(), r.End())
	}
}

// P1.2: a reader goes on field by field, and tells how it stands between them.
func TestReadOn(t *testing.T) {
	s := tlv.Num('n', 300) + tlv.Text('t', "ab") + tlv.All('l', "x", "", "yy") + tlv.Int('i', 7)
	r := tlv.Read(s)
	stands := func(letter byte, left int) {
		t.Helper()
		for range 2 { // asking changes nothing
			got, more := r.Next()
			if got != letter || !more || r.Left() != left || !r.Good() || r.End() != api.ErrForm {
				t.Errorf("Next %d %v, Left %d, Good %v, End %d, want %d true, %d, true, 10", got, more, r.Left(), r.Good(), r.End(), letter, left)
			}
		}
	}
	stands('n', 36)
	if n := r.Num('n'); n != 300 {
		t.Errorf("Num: %d", n)
	}
	stands('t', 30)
	if x := r.Text('t', 2); x != "ab" {
		t.Errorf("Text: %q", x)
	}
	stands('l', 24)
	if l := r.All('l', 3, 2); !slices.Equal(l, []string{"x", "", "yy"}) {
		t.Errorf("All: %q", l)
	}
	stands('i', 5)
	if n := r.Int('i', 7); n != 7 {
		t.Errorf("Int: %d", n)
	}
	isDone(t, "behind the last one", r)
}

// P1.2: numbers of all lengths are read.
func TestNumRead(t *testing.T) {
	for _, c := range []struct {
		body string
		want uint64
	}{
		{"", 0},
		{"\x01", 1},
		{"\xff", 255},
		{"\x01\x00", 256},
		{"\x01\x2c", 300},
		{"\x01\x02\x03\x04\x05\x06\x07\x08", 0x0102030405060708},
		{"\x80\x00\x00\x00\x00\x00\x00\x00", 1 << 63},
		{"\xff\xff\xff\xff\xff\xff\xff\xff", math.MaxUint64},
	} {
		for _, letter := range []byte{0, 'n', 0xff} {
			r := tlv.Read(field(letter, c.body))
			if n := r.Num(letter); n != c.want {
				t.Errorf("Num of % x: %d, want %d", c.body, n, c.want)
			}
			isDone(t, "Num", r)
		}
	}
}

// P1.2: a body that no number has is none, whoever asks.
func TestNoNumber(t *testing.T) {
	for _, body := range []string{
		"\x00", "\x00\x01", "\x00\xff\xff\xff\xff\xff\xff\xff", // a 0 ahead
		"123456789", "\x01\x00\x00\x00\x00\x00\x00\x00\x00", "\x00\x00\x00\x00\x00\x00\x00\x00\x01", // too long
		strings.Repeat("\x01", 1<<16),
	} {
		r := tlv.Read(field('n', body) + tlv.Num('n', 5))
		if n := r.Num('n'); n != 0 {
			t.Errorf("Num of %d bytes: %d", len(body), n)
		}
		isBad(t, "Num", r)
		r = tlv.Read(field('n', body) + tlv.Num('n', 5))
		if n := r.Int('n', math.MaxInt); n != 0 {
			t.Errorf("Int of %d bytes: %d", len(body), n)
		}
		isBad(t, "Int", r)
	}
}

// P1.2: Int reads what is not above its bound.
func TestIntRead(t *testing.T) {
	for _, c := range []struct {
		n    uint64
		most int
		good bool
	}{
		{0, 0, true}, {1, 0, false}, {0, 5, true}, {4, 5, true}, {5, 5, true}, {6, 5, false},
		{255, 255, true}, {256, 255, false}, {300, 299, false}, {300, 300, true},
		{0, -1, false}, {1, -1, false}, {0, math.MinInt, false}, {5, math.MinInt, false},
		{math.MaxInt - 1, math.MaxInt, true}, {math.MaxInt, math.MaxInt, true}, {math.MaxInt, math.MaxInt - 1, false},
		{math.MaxInt + 1, math.MaxInt, false}, {math.MaxUint64, math.MaxInt, false},
		{math.MaxUint64, 5, false}, {math.MaxUint64, -1, false},
	} {
		r := tlv.Read(tlv.Num('i', c.n))
		got, what := r.Int('i', c.most), fmt.Sprintf("Int of %d, of at most %d", c.n, c.most)
		if want := int(c.n); c.good && got != want || !c.good && got != 0 {
			t.Errorf("%s: %d", what, got)
		}
		if c.good {
			isDone(t, what, r)
		} else {
			isBad(t, what, r)
		}
	}
}

// P1.2: Text reads what has no more bytes than its bound.
func TestTextRead(t *testing.T) {
	for _, c := range []struct {
		s    string
		most int
		good bool
	}{
		{"", 0, true}, {"", 5, true}, {"", -1, false}, {"", math.MinInt, false},
		{"a", 0, false}, {"a", 1, true}, {"abc", 2, false}, {"abc", 3, true}, {"abc", 4, true}, {"abc", -1, false},
		{"\x00\xff\xc3", math.MaxInt, true},
		{strings.Repeat("a", 1<<16+513), 1<<16 + 513, true}, {strings.Repeat("a", 1<<16+513), 1<<16 + 512, false},
		{strings.Repeat("a", mostBody), mostBody, true}, {strings.Repeat("a", mostBody), mostBody - 1, false},
	} {
		r := tlv.Read(tlv.Text('t', c.s))
		got, what := r.Text('t', c.most), fmt.Sprintf("Text of %d bytes, of at most %d", len(c.s), c.most)
		if c.good && got != c.s || !c.good && got != "" {
			t.Errorf("%s: %d bytes", what, len(got))
		}
		if c.good {
			isDone(t, what, r)
		} else {
			isBad(t, what, r)
		}
	}
}

// P1.2: All reads at most many texts, of at most most bytes each.
func TestAllRead(t *testing.T) {
	for _, c := range []struct {
		l          []string
		many, most int
		good       bool
	}{
		{nil, 0, 0, true}, {nil, 5, 5, true}, {nil, 0, -1, true}, {nil, -1, 0, false}, {nil, math.MinInt, 5, false},
		{[]string{""}, 1, 0, true}, {[]string{""}, 0, 0, false}, {[]string{""}, 1, -1, false}, {[]string{""}, -1, 5, false},
		{[]string{"x", "yy"}, 2, 2, true}, {[]string{"x", "yy"}, 1, 2, false}, {[]string{"x", "yy"}, 2, 1, false},
		{[]string{"yy", "x"}, 2, 1, false}, {[]string{"x", "yy"}, 3, 3, true}, {[]string{"x", "yy"}, math.MaxInt, math.MaxInt, true},
		{[]string{"", "", ""}, 3, 0, true}, {[]string{"", "", ""}, 2, 0, false}, {[]string{"", "a", ""}, 3, 0, false},
		{slices.Repeat([]string{"ab"}, 1000), 1000, 2, true}, {slices.Repeat([]string{"ab"}, 1000), 999, 2, false},
		{[]string{strings.Repeat("a", mostBody-4)}, 1, mostBody, true},
	} {
		r := tlv.Read(tlv.All('l', c.l...))
		got, what := r.All('l', c.many, c.most), fmt.Sprintf("All of %d texts, of at most %d of at most %d bytes", len(c.l), c.many, c.most)
		if c.good && !slices.Equal(got, c.l) || !c.good && len(got) != 0 {
			t.Errorf("%s: %d texts", what, len(got))
		}
		if c.good {
			isDone(t, what, r)
		} else {
			isBad(t, what, r)
		}
	}
}

// P1.2: a body that is not made of fields of the letter is no list.
func TestNoFieldsInField(t *testing.T) {
	for _, body := range []string{
		"z", "l", "l\x00\x00", "l\x00\x00\x01", "l\x00\x00\x02a", // cut short
		field('m', "a"), field('l', "a") + field('m', "a"), field('m', "") + field('l', "a"), // of another letter
		field('l', "a") + "z", field('l', "a") + "l\x00\x00\x01", field('l', "a") + "\x00", // bytes left behind
	} {
		r := tlv.Read(field('l', body) + tlv.All('l', "a"))
		if l := r.All('l', 10, 10); len(l) != 0 {
			t.Errorf("All of % x: %q", body, l)
		}
		isBad(t, fmt.Sprintf("All of % x", body), r)
	}
	// The outer field alone bounds the inner ones: what stands behind it isn't theirs.
	r := tlv.Read("l\x00\x00\x05l\x00\x00\x02ab")
	r.All('l', 10, 10)
	isBad(t, "All of a field whose last one goes beyond it", r)
}

// P1.2: a field that is cut short anywhere is none; its letter stands next, till somebody wants to read it.
func TestCutShort(t *testing.T) {
	long := field('n', strings.Repeat("\x01", 8))
	for _, whole := range []string{long, tlv.All('n', "a", "bc"), tlv.Num('n', 0)} {
		for cut := range whole {
			s := whole[:cut]
			for _, c := range calls {
				r := tlv.Read(s)
				letter, more := r.Next()
				if more != (s != "") || more && letter != 'n' || r.Left() != len(s) || !r.Good() {
					t.Errorf("% x: Next %d %v, Left %d, Good %v ahead of any call", s, letter, more, r.Left(), r.Good())
				}
				if c.told(r) {
					t.Errorf("%s of % x tells something", c.name, s)
				}
				isBad(t, fmt.Sprintf("%s of % x", c.name, s), r)
			}
		}
	}
}

// P1.2: the three bytes of a length all count.
func TestLengthRead(t *testing.T) {
	for _, head := range []string{"n\x00\x00\x02", "n\x00\x01\x00", "n\x01\x00\x00", "n\xff\xff\xff", "n\x80\x00\x01"} {
		for _, c := range calls {
			r := tlv.Read(head + "\x01")
			if c.told(r) {
				t.Errorf("%s of % x and one byte tells something", c.name, head)
			}
			isBad(t, c.name, r)
		}
	}
}

// P1.2: a field of another letter is not read, by any call.
func TestOtherLetter(t *testing.T) {
	for _, c := range calls {
		for _, letter := range []byte{0, 'm', 'o', 'N', 'n' + 128, 0xff} {
			for _, body := range []string{"", "\x01", field('n', "a"), field(letter, "a")} {
				r := tlv.Read(field(letter, body) + tlv.Num('n', 1))
				if c.told(r) {
					t.Errorf("%s of the letter %d tells something", c.name, letter)
				}
				isBad(t, c.name, r)
			}
		}
	}
}

// P1.2: End tells ErrForm while bytes are left behind, whatever they are; the reader stays good, and goes on.
func TestBytesBehind(t *testing.T) {
	for _, behind := range []string{"z", "\x00", "n\x00\x00\x01", tlv.Num('n', 2)} {
		r := tlv.Read(tlv.Num('n', 300) + behind)
		if n := r.Num('n'); n != 300 || r.Left() != len(behind) || !r.Good() || r.End() != api.ErrForm || !r.Good() {
			t.Errorf("% x behind: Num %d, Left %d, Good %v, End %d", behind, n, r.Left(), r.Good(), r.End())
		}
	}
	r := tlv.Read(tlv.Num('n', 300) + tlv.Num('n', 2))
	r.Num('n')
	r.End()
	if n := r.Num('n'); n != 2 {
		t.Errorf("Num behind End: %d", n)
	}
	isDone(t, "behind both", r)
}

// P1.2: a reader is at the beginning of its own text, whatever other ones do.
func TestReadersApart(t *testing.T) {
	s := tlv.Num('n', 3)
	a, b := tlv.Read(s), tlv.Read(s)
	a.Text('x', 1)
	isBad(t, "the one", a)
	if n := b.Num('n'); n != 3 {
		t.Errorf("the other one: Num %d", n)
	}
	isDone(t, "the other one", b)
}

// R3: a list that is told is its owner's: what is done to it has no effect.
func TestListTold(t *testing.T) {
	s := tlv.All('l', "a", "b")
	r := tlv.Read(s + s)
	one := r.All('l', 2, 1)
	two := r.All('l', 2, 1)
	one[0] = "x"
	_ = append(one[:1], "y")
	if !slices.Equal(two, []string{"a", "b"}) {
		t.Errorf("the second list became %q", two)
	}
	if again := tlv.Read(s).All('l', 2, 1); !slices.Equal(again, []string{"a", "b"}) {
		t.Errorf("a list that is read again is %q", again)
	}
}

// A nil reader tells 0, nothing, false and ErrForm; a zero one is Read of nothing.
func TestNoReader(t *testing.T) {
	isBad(t, "a nil reader", nil)
	isDone(t, "Read of nothing", tlv.Read(""))
	isDone(t, "a zero reader", new(tlv.Reader))
	for _, c := range calls {
		for _, r := range []*tlv.Reader{new(tlv.Reader), tlv.Read("")} {
			if c.told(r) {
				t.Errorf("%s of nothing tells something", c.name)
			}
			isBad(t, c.name+" of nothing", r)
		}
	}
}
