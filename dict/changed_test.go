package dict_test

import (
	"fmt"
	"strings"
	"testing"

	"twinspan/api"
	"twinspan/dict"
)

// full is a map of n entries k0000, k0001 and so on, and a model of it.
func full(n int) (dict.Dict, model) {
	var l []api.Entry
	m := model{}
	for i := range n {
		key := fmt.Sprintf("k%04d", i)
		l = append(l, api.Entry{Key: key, Value: "v"})
		m[key] = "v"
	}
	return dict.Of(l...), m
}

// isWhole holds all the entries of a map against those of a model.
func isWhole(t *testing.T, what string, d dict.Dict, m model) {
	t.Helper()
	if d.Len() != len(m) {
		t.Errorf("%s: %d entries, want %d", what, d.Len(), len(m))
	}
	haveRows(t, what, d.All(), m.rows(func(string) bool { return true }))
}

// P8.2, P8.3: Put of keys and values around their bounds, into maps that are empty, nearly full and full, of a key that is there and of one that is not; beside an error stands a zero map.
func TestPutBounds(t *testing.T) {
	keys := []string{"", "a", "k0000", "k1000", "k1998", "k1999", "z", strings.Repeat("k", 400), strings.Repeat("k", 401), strings.Repeat("\xff", 1<<20)}
	values := []string{"", "w", strings.Repeat("w", 4000), strings.Repeat("w", 4001), strings.Repeat("w", 1<<20)}
	for _, n := range []int{0, 1, 1998, 1999, 2000} {
		d, m := full(n)
		for _, key := range keys {
			for _, value := range values {
				what := fmt.Sprintf("Put of a key %.8q of %d bytes, a value of %d, into %d", key, len(key), len(value), n)
				was, there := m[key]
				want := m.put(key, value)
				o, e := d.Put(key, value)
				isTold(t, what, e, want)
				if want == api.OK {
					isWhole(t, what, o, m)
				} else {
					isWhole(t, what, o, model{})
				}
				switch {
				case there:
					m[key] = was
				default:
					delete(m, key)
				}
				isWhole(t, what+": the one that was asked", d, m)
			}
		}
	}
}

// P8.2: which error is told of a key or a value that is too long, and of a map that is full.
func TestPutErrors(t *testing.T) {
	d, _ := full(2000)
	long, longer := strings.Repeat("k", 400), strings.Repeat("k", 401)
	value, more := strings.Repeat("v", 4000), strings.Repeat("v", 4001)
	for _, c := range []struct {
		what       string
		d          dict.Dict
		key, value string
		want       api.Errno
	}{
		{"at both bounds", dict.Of(), long, value, api.OK},
		{"a key above", dict.Of(), longer, "", api.ErrSize},
		{"a value above", dict.Of(), "", more, api.ErrSize},
		{"both above", dict.Of(), longer, more, api.ErrSize},
		{"a value above, of a key that is there", d, "k0000", more, api.ErrSize},
		{"full", d, "x", "", api.ErrFull},
		{"full, at both bounds", d, long, value, api.ErrFull},
		{"full, a key above", d, longer, "", api.ErrSize},
		{"full, a value above", d, "x", more, api.ErrSize},
		{"full, of a key that is there", d, "k0000", value, api.OK},
		{"full, of the last key", d, "k1999", "", api.OK},
	} {
		_, e := c.d.Put(c.key, c.value)
		isTold(t, c.what, e, c.want)
	}
	less, ok := d.Drop("k0500")
	if !ok {
		t.Error("Drop: not there")
	}
	again, e := less.Put("x", "")
	isTold(t, "when one was dropped", e, api.OK)
	_, e = again.Put("y", "")
	isTold(t, "full again", e, api.ErrFull)
}

// P8.2: Drop of each key that is there, and of some that are not.
func TestDrop(t *testing.T) {
	keys := []string{"", "a", "ab", "b", "\xff"}
	m := model{}
	for i, key := range keys {
		m[key] = fmt.Sprint(i)
	}
	d := dict.Of(m.rows(func(string) bool { return true })...)
	for _, key := range append(keys, "\x00", "aa", "a\x00", "abc", "c", "\xff\xff", strings.Repeat("a", 1000)) {
		value, there := m[key]
		delete(m, key)
		o, ok := d.Drop(key)
		if ok != there {
			t.Errorf("Drop(%q): %v, want %v", key, ok, there)
		}
		isAs(t, fmt.Sprintf("Drop(%q)", key), o, m)
		if _, ok := o.Drop(key); ok {
			t.Errorf("Drop(%q) twice: true", key)
		}
		if dict.Same(d, o) == there {
			t.Errorf("Drop(%q): Same %v", key, !there)
		}
		if there {
			m[key] = value
		}
	}
	isAs(t, "behind all", d, m)
}

// P8.2: all are dropped, in every order.
func TestDropAll(t *testing.T) {
	keys := []string{"", "a", "ab", "b", "\xff"}
	for _, order := range orders(len(keys)) {
		d, m := dict.Of(of("", "0", "a", "1", "ab", "2", "b", "3", "\xff", "4")...), model{"": "0", "a": "1", "ab": "2", "b": "3", "\xff": "4"}
		for _, i := range order {
			o, ok := d.Drop(keys[i])
			if !ok {
				t.Errorf("Drop(%q) in %v: false", keys[i], order)
			}
			delete(m, keys[i])
			d = o
			isWhole(t, fmt.Sprintf("%v", order), d, m)
		}
	}
}

// P8.2: Of passes over the entries that tell an error, wherever they stand, and puts all others, those of full maps among them.
func TestOfPassesOver(t *testing.T) {
	longer, more := strings.Repeat("k", 401), strings.Repeat("v", 4001)
	bad := []api.Entry{{Key: longer}, {Key: "a", Value: more}, {Key: longer, Value: more}, {Key: "new", Value: more}}
	good := of("a", "1", "b", "2", "a", "3")
	for at := range len(good) + 1 {
		for _, x := range bad {
			l := append(append(append([]api.Entry{}, good[:at]...), x), good[at:]...)
			isAs(t, fmt.Sprintf("one at %d", at), dict.Of(l...), model{"a": "3", "b": "2"})
		}
	}
	isAs(t, "those alone", dict.Of(bad...), model{})

	d, m := full(2000)
	l := append(d.All(), of("a", "not", "k0000", "0", "k1999", "1", "z", "not", "k0001", more, "k1000", "2")...)
	m["k0000"], m["k1999"], m["k1000"] = "0", "1", "2"
	isWhole(t, "a full one", dict.Of(l...), m)
}

// P8.2, R5: Of many more entries than a map has.
func TestOfVeryMany(t *testing.T) {
	var l []api.Entry
	m := model{}
	r := draw(1)
	for i := range 200000 {
		x := api.Entry{Key: fmt.Sprint(r.next(3000)), Value: fmt.Sprint(i)}
		l = append(l, x)
		m.put(x.Key, x.Value)
	}
	if len(m) != 2000 {
		t.Fatalf("%d entries", len(m))
	}
	isWhole(t, "very many", dict.Of(l...), m)
}

// P8.2: maps that are put together in other ways are the same; those of which a key, a value or one entry is another one are not.
func TestSame(t *testing.T) {
	a := dict.Of(of("a", "1", "b", "2", "c", "3")...)
	b := dict.Of(of("c", "x", "b", "2", "d", "4", "a", "1", "c", "3")...)
	b, _ = b.Drop("d")
	c, _ := dict.Of(of("b", "2", "c", "3")...).Put("a", "1")
	same := []dict.Dict{a, b, c, dict.Of(a.All()...)}
	for i, x := range same {
		for j, y := range same {
			if !dict.Same(x, y) {
				t.Errorf("%d and %d are not the same", i, j)
			}
		}
	}
	for _, l := range [][]api.Entry{
		nil,
		of("a", "1", "b", "2"),
		of("b", "2", "c", "3"),
		of("a", "1", "b", "2", "c", "3", "d", "4"),
		of("", "", "a", "1", "b", "2", "c", "3"),
		of("a", "1", "b", "2", "c", ""),
		of("a", "1", "b", "2", "c", "4"),
		of("a", "0", "b", "2", "c", "3"),
		of("a", "1", "b", "2", "d", "3"),
		of("a", "1", "b", "2", "c\x00", "3"),
		of("", "1", "b", "2", "c", "3"),
		of("a", "2", "b", "1", "c", "3"),
		of("a1", "", "b", "2", "c", "3"),
	} {
		d := dict.Of(l...)
		if dict.Same(a, d) || dict.Same(d, a) {
			t.Errorf("%q is the same as %q", l, a.All())
		}
		if !dict.Same(d, d) {
			t.Errorf("%q is not the same as itself", l)
		}
	}
}
