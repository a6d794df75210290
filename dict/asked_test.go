package dict_test

import (
	"fmt"
	"strings"
	"testing"

	"twinspan/api"
	"twinspan/dict"
)

// P8.1, P8.2: the chapter's example.
func TestExample(t *testing.T) {
	d := dict.Of(of("b", "1", "a", "2", "b", "3")...)
	haveRows(t, "All", d.All(), of("a", "2", "b", "3"))
	isAs(t, "the example", d, model{"a": "2", "b": "3"})
}

// P8.1, P8.2: maps of no, one, two and more entries, put in every order, by Of and one by one, with a key put again.
func TestEveryOrder(t *testing.T) {
	for _, keys := range [][]string{
		{},
		{""},
		{"a"},
		{"\xff"},
		{"", "a"},
		{"a", "ab"},
		{"\x00", "\xff"},
		{"", "\x00", "\xff"},
		{"a", "ab", "aba", "b"},
		{"", "a", "a\x00", "a\xff", "b"},
		{"\x00", "\x00\x00", "a", "\xfe", "\xff"},
	} {
		for _, order := range orders(len(keys)) {
			var put []api.Entry
			m := model{}
			for n, i := range order {
				put = append(put, api.Entry{Key: keys[i], Value: fmt.Sprint(n)})
				m[keys[i]] = fmt.Sprint(n)
			}
			isAs(t, fmt.Sprintf("%q", put), putAll(t, put), m)
			for i, x := range put {
				more := append(put[:len(put):len(put)], api.Entry{Key: x.Key, Value: "again"})
				m[x.Key] = "again"
				d := putAll(t, more)
				haveRows(t, fmt.Sprintf("%q", more), d.All(), m.rows(func(string) bool { return true }))
				m[x.Key] = fmt.Sprint(i)
			}
		}
	}
}

// putAll is the map that entries make, which has to be the same one by Of and put one by one.
func putAll(t *testing.T, l []api.Entry) dict.Dict {
	t.Helper()
	var d dict.Dict
	for _, x := range l {
		o, e := d.Put(x.Key, x.Value)
		isTold(t, fmt.Sprintf("Put of %q", x), e, api.OK)
		d = o
	}
	all := dict.Of(l...)
	haveRows(t, "Of, and one by one", all.All(), d.All())
	if !dict.Same(all, d) {
		t.Errorf("%q: Of isn't the same as one by one", l)
	}
	return all
}

// P8.1: a map of many entries: at each key, between two, and around all.
func TestMany(t *testing.T) {
	const many = 500
	m := model{}
	var l []api.Entry
	for i := range many {
		// In an order in which they don't rise, with every second number left out.
		key := fmt.Sprintf("k%04d", i*181%many*2)
		l = append(l, api.Entry{Key: key, Value: fmt.Sprint(i)})
		m[key] = fmt.Sprint(i)
	}
	d := dict.Of(l...)
	isAs(t, "many", d, m)
	for i := range many {
		key := fmt.Sprintf("k%04d", 2*i)
		if at, ok := d.Find(key); at != i || !ok || d.At(i).Key != key {
			t.Errorf("Find(%q): %d, %v", key, at, ok)
		}
		if at, ok := d.Find(key + "x"); at != i+1 || ok {
			t.Errorf("Find(%qx): %d, %v", key, at, ok)
		}
		if v, ok := d.Get(key); v != m[key] || !ok {
			t.Errorf("Get(%q): %q, %v", key, v, ok)
		}
	}
	between := d.Range("k0101", "k0200")
	if len(between) != 49 || between[0].Key != "k0102" || between[48].Key != "k0198" {
		t.Errorf("Range: %q", between)
	}
	if under := d.Under("k01"); len(under) != 50 || under[0].Key != "k0100" || under[49].Key != "k0198" {
		t.Errorf("Under: %q", under)
	}
}

// P8.1: Find, Get and At at keys and places that are there, between two, below all, above all, below 0, and at Len.
func TestPlaces(t *testing.T) {
	d := dict.Of(of("b", "1", "d", "", "da", "3")...)
	for _, c := range []struct {
		key   string
		at    int
		value string
		there bool
	}{
		{"", 0, "", false},
		{"a", 0, "", false},
		{"azzz", 0, "", false},
		{"b", 0, "1", true},
		{"b\x00", 1, "", false},
		{"c", 1, "", false},
		{"d", 1, "", true},
		{"d\x00", 2, "", false},
		{"da", 2, "3", true},
		{"da\x00", 3, "", false},
		{"e", 3, "", false},
		{"\xff", 3, "", false},
		{strings.Repeat("\xff", 500), 3, "", false},
	} {
		if at, there := d.Find(c.key); at != c.at || there != c.there {
			t.Errorf("Find(%q): %d, %v", c.key, at, there)
		}
		if value, there := d.Get(c.key); value != c.value || there != c.there {
			t.Errorf("Get(%q): %q, %v", c.key, value, there)
		}
	}
	for i, want := range map[int]api.Entry{0: {Key: "b", Value: "1"}, 1: {Key: "d"}, 2: {Key: "da", Value: "3"}, 3: {}, 4: {}, -1: {}, -1 << 63: {}, 1<<63 - 1: {}} {
		if got := d.At(i); got != want {
			t.Errorf("At(%d): %q", i, got)
		}
	}
}

// P8.1: Range where from is less than to, the same, and greater, with ends that are keys and that are none.
func TestRange(t *testing.T) {
	d := dict.Of(of("b", "1", "c", "2", "cc", "3", "d", "4", "\xff", "5")...)
	for _, c := range []struct {
		from, to string
		want     []api.Entry
	}{
		{"b", "d", of("b", "1", "c", "2", "cc", "3")},
		{"b", "d\x00", of("b", "1", "c", "2", "cc", "3", "d", "4")},
		{"b\x00", "d", of("c", "2", "cc", "3")},
		{"a", "bb", of("b", "1")},
		{"", "\xff", of("b", "1", "c", "2", "cc", "3", "d", "4")},
		{"", "\xff\x00", d.All()},
		{"", "b", nil},
		{"b", "c", of("b", "1")},
		{"c", "c", nil},
		{"bb", "bb", nil},
		{"bb", "bc", nil},
		{"d", "b", nil},
		{"cd", "cb", nil},
		{"\xff\xff", "", nil},
		{"a", "", nil},
		{"", "", nil},
		{"\xff", "\xff\xff", of("\xff", "5")},
	} {
		haveRows(t, fmt.Sprintf("Range(%q, %q)", c.from, c.to), d.Range(c.from, c.to), c.want)
	}
}

// P8.1: Under of the empty text, of keys, of what no key begins with, and of texts that end with ff.
func TestUnder(t *testing.T) {
	d := dict.Of(of("a", "1", "a/", "2", "a/b", "3", "a0", "4", "b", "5", "b\xff", "6", "b\xff\xff", "7", "b\xff\xffc", "8", "c", "9", "\xff", "10", "\xff\xff", "11")...)
	for _, c := range []struct {
		prefix string
		want   []api.Entry
	}{
		{"", d.All()},
		{"a", of("a", "1", "a/", "2", "a/b", "3", "a0", "4")},
		{"a/", of("a/", "2", "a/b", "3")},
		{"a/b", of("a/b", "3")},
		{"a/bc", nil},
		{"a\x00", nil},
		{"aa", nil},
		{"0", nil},
		{"d", nil},
		{"b\xff", of("b\xff", "6", "b\xff\xff", "7", "b\xff\xffc", "8")},
		{"b\xff\xff", of("b\xff\xff", "7", "b\xff\xffc", "8")},
		{"b\xff\xff\xff", nil},
		{"\xff", of("\xff", "10", "\xff\xff", "11")},
		{"\xff\xff", of("\xff\xff", "11")},
		{"\xff\xff\xff", nil},
		{strings.Repeat("a", 5000), nil},
	} {
		haveRows(t, fmt.Sprintf("Under(%q)", c.prefix), d.Under(c.prefix), c.want)
	}
	haveRows(t, "of the empty key alone", dict.Of(of("", "x")...).Under(""), of("", "x"))
}

// P8.1, R1: a zero map, one of no entries, and one from which all were dropped are empty, at every call.
func TestEmpty(t *testing.T) {
	dropped, ok := dict.Of(of("a", "1")...).Drop("a")
	if !ok {
		t.Error("Drop of a key that is there: false")
	}
	var none []api.Entry
	for what, d := range map[string]dict.Dict{"zero": {}, "Of nothing": dict.Of(), "Of nil": dict.Of(none...), "dropped": dropped} {
		isAs(t, what, d, model{})
		o, ok := d.Drop("a")
		if ok {
			t.Errorf("%s: Drop tells that it was there", what)
		}
		isAs(t, what+", dropped", o, model{})
		o, e := d.Put("", "")
		isTold(t, what+", Put", e, api.OK)
		isAs(t, what+", put", o, model{"": ""})
		isAs(t, what+", still", d, model{})
		for other, x := range map[string]dict.Dict{"zero": {}, "Of nothing": dict.Of(), "dropped": dropped} {
			if !dict.Same(d, x) || !dict.Same(x, d) {
				t.Errorf("%s isn't the same as %s", what, other)
			}
		}
		if dict.Same(d, o) || dict.Same(o, d) {
			t.Errorf("%s is the same as one with an entry", what)
		}
	}
}
