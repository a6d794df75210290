package dict_test

import (
	"bytes"
	"slices"
	"testing"

	"twinspan/api"
	"twinspan/dict"
)

// model is a plain map of what a dict has.
type model map[string]string

// put puts into a model as the chapter says, with the error that it names first.
func (m model) put(key, value string) api.Errno {
	_, there := m[key]
	switch {
	case len(key) > 400, len(value) > 4000:
		return api.ErrSize
	case !there && len(m) == 2000:
		return api.ErrFull
	}
	m[key] = value
	return api.OK
}

// rows are a model's entries whose keys are so, by rising keys.
func (m model) rows(so func(key string) bool) []api.Entry {
	var l []api.Entry
	for key, value := range m {
		if so(key) {
			l = append(l, api.Entry{Key: key, Value: value})
		}
	}
	slices.SortFunc(l, func(x, y api.Entry) int { return bytes.Compare([]byte(x.Key), []byte(y.Key)) })
	return l
}

// less tells, byte by byte, whether a text stands ahead of another one.
func less(a, b string) bool {
	return bytes.Compare([]byte(a), []byte(b)) < 0
}

// probes are keys that are asked for, there or not: the empty one, some of which one begins with another one, some with the bytes 00 and ff.
var probes = []string{
	"", "\x00", "\x00\x00", "\x00a", "0", "A", "a", "a\x00", "a\x00b", "aa", "ab", "aba", "a\xff", "a\xffb", "a\xff\xff",
	"b", "ba", "b\xff", "c", "z", "\x7f", "\x80", "é", "\xfe", "\xff", "\xff\x00", "\xffa", "\xff\xff",
}

// isTold holds an error against the one that is asked for.
func isTold(t *testing.T, what string, got, want api.Errno) {
	t.Helper()
	if got != want {
		t.Errorf("%s: %v, want %v", what, got, want)
	}
}

// haveRows holds entries against those that are asked for.
func haveRows(t *testing.T, what string, got, want []api.Entry) {
	t.Helper()
	if !slices.Equal(got, want) {
		t.Errorf("%s: %q, want %q", what, got, want)
	}
}

// isAs holds all that a map can be asked against a model of it: at all its places and around them, and at each probe.
func isAs(t *testing.T, what string, d dict.Dict, m model) {
	t.Helper()
	all := m.rows(func(string) bool { return true })
	haveRows(t, what+": All", d.All(), all)
	if d.Len() != len(m) {
		t.Errorf("%s: Len %d, want %d", what, d.Len(), len(m))
	}
	for i := -2; i < len(all)+3; i++ {
		want := api.Entry{}
		if i >= 0 && i < len(all) {
			want = all[i]
		}
		if got := d.At(i); got != want {
			t.Errorf("%s: At(%d) %q, want %q", what, i, got, want)
		}
	}
	for _, key := range probes {
		isAt(t, what, d, m, key)
	}
}

// isAt holds what a map tells at one key against a model of it.
func isAt(t *testing.T, what string, d dict.Dict, m model, key string) {
	t.Helper()
	want, there := m[key]
	if got, ok := d.Get(key); got != want || ok != there {
		t.Errorf("%s: Get(%q) %q, %v; want %q, %v", what, key, got, ok, want, there)
	}
	ahead := len(m.rows(func(k string) bool { return less(k, key) }))
	if got, ok := d.Find(key); got != ahead || ok != there {
		t.Errorf("%s: Find(%q) %d, %v; want %d, %v", what, key, got, ok, ahead, there)
	}
	haveRows(t, what+": Under "+key, d.Under(key), m.rows(func(k string) bool {
		return len(k) >= len(key) && k[:len(key)] == key
	}))
	for _, to := range probes {
		haveRows(t, what+": Range from "+key+" to "+to, d.Range(key, to), m.rows(func(k string) bool {
			return !less(k, key) && less(k, to)
		}))
	}
}

// draw is a number that is followed by others, as a script's.
type draw uint64

// next is the next one, below n.
func (r *draw) next(n int) int {
	*r = *r*6364136223846793005 + 1442695040888963407
	return int(uint64(*r)>>33) % n
}

// orders are all orders of the numbers below n.
func orders(n int) [][]int {
	if n == 0 {
		return [][]int{nil}
	}
	var l [][]int
	for _, o := range orders(n - 1) {
		for at := range n {
			l = append(l, slices.Insert(slices.Clone(o), at, n-1))
		}
	}
	return l
}

// of are entries of keys and values in turn.
func of(texts ...string) []api.Entry {
	var l []api.Entry
	for i := 0; i+1 < len(texts); i += 2 {
		l = append(l, api.Entry{Key: texts[i], Value: texts[i+1]})
	}
	return l
}
