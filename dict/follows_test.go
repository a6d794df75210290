package dict_test

import (
	"fmt"
	"slices"
	"testing"

	"twinspan/api"
	"twinspan/dict"
)

// P8.3: what is put is there, all else is as it was, and the one that was asked stays as it was: for each key there is, and each probe.
func TestPutFollows(t *testing.T) {
	m := model{"": "0", "a": "1", "a\x00b": "2", "ab": "3", "b\xff": "4", "\xff": "5"}
	d := dict.Of(m.rows(func(string) bool { return true })...)
	for _, key := range probes {
		for _, value := range []string{"", "new", m[key]} {
			o, e := d.Put(key, value)
			isTold(t, fmt.Sprintf("Put(%q)", key), e, api.OK)
			was, there := m[key]
			m[key] = value
			isAs(t, fmt.Sprintf("Put(%q, %q)", key, value), o, m)
			switch {
			case there:
				m[key] = was
			default:
				delete(m, key)
			}
		}
		isWhole(t, fmt.Sprintf("Put(%q): the one that was asked", key), d, m)
	}
}

// P8.3: two maps that are made out of the same one know nothing of each other: each of two changes, at each pair of keys, of maps of each size up to eight.
func TestTwoOfOne(t *testing.T) {
	keys := []string{"", "a", "b", "c", "d", "e", "f", "g"}
	for n := range len(keys) + 1 {
		m := model{}
		var d dict.Dict
		for _, key := range keys[:n] {
			m[key] = "was"
			d, _ = d.Put(key, "was")
		}
		for _, first := range changes(keys) {
			for _, second := range changes(keys) {
				what := fmt.Sprintf("%d entries: %v, %v", n, first, second)
				x, mx := first.of(d, m)
				y, my := second.of(d, m)
				isWhole(t, what+": the first", x, mx)
				isWhole(t, what+": the second", y, my)
				isWhole(t, what+": the one that was asked", d, m)
				z, mz := second.of(x, mx)
				isWhole(t, what+": both", z, mz)
				isWhole(t, what+": the first, behind", x, mx)
			}
		}
	}
}

// change is a Put of a value, or a Drop.
type change struct {
	key, value string
	drop       bool
}

// changes are a Put and a Drop of each key, and of one between each two and behind all.
func changes(keys []string) []change {
	var l []change
	for _, key := range keys {
		l = append(l, change{key: key, value: "put " + key}, change{key: key + "x", value: "new"}, change{key: key, drop: true})
	}
	return l
}

// of is what a change makes of a map, and of its model.
func (c change) of(d dict.Dict, m model) (dict.Dict, model) {
	n := model{}
	for key, value := range m {
		n[key] = value
	}
	if c.drop {
		delete(n, c.key)
		o, _ := d.Drop(c.key)
		return o, n
	}
	n[c.key] = c.value
	o, _ := d.Put(c.key, c.value)
	return o, n
}

// P8.3, R3: what is done to what was told, and to what was handed in, has no effect, neither on the map nor on what else was told.
func TestOwners(t *testing.T) {
	in := of("b", "1", "a", "2", "ba", "3", "c", "4")
	was := slices.Clone(in)
	m := model{"a": "2", "b": "1", "ba": "3", "c": "4"}
	d := dict.Of(in...)
	haveRows(t, "what was handed in", in, was)
	spoil(in)
	isAs(t, "Of, spoilt", d, m)
	asked := map[string]func() []api.Entry{
		"All":           d.All,
		"Range":         func() []api.Entry { return d.Range("a", "c") },
		"Range of one":  func() []api.Entry { return d.Range("b", "b\x00") },
		"Range of none": func() []api.Entry { return d.Range("b", "b") },
		"Under":         func() []api.Entry { return d.Under("b") },
		"Under nothing": func() []api.Entry { return d.Under("") },
		"Under none":    func() []api.Entry { return d.Under("d") },
	}
	for what, ask := range asked {
		told, other := ask(), ask()
		want := slices.Clone(other)
		spoil(told)
		haveRows(t, what+": what else was told", other, want)
		isAs(t, what+", spoilt", d, m)
		_ = append(other, of("x", "y", "z", "z")...)
		isAs(t, what+", with more put behind", d, m)
	}
	made := dict.Of(d.All()...)
	put, _ := d.Put("d", "5")
	dropped, _ := d.Drop("c")
	spoil(d.All())
	spoil(put.All())
	spoil(dropped.All())
	isAs(t, "made of what was told", made, m)
	isWhole(t, "put", put, model{"a": "2", "b": "1", "ba": "3", "c": "4", "d": "5"})
	isWhole(t, "dropped", dropped, model{"a": "2", "b": "1", "ba": "3"})
}

// spoil makes other entries of all that there are, of what has room behind, too.
func spoil(l []api.Entry) {
	l = l[:cap(l)]
	for i := range l {
		l[i] = api.Entry{Key: "spoilt", Value: "spoilt"}
	}
}

// P8.1 to P8.3, R4: scripts of changes, of which each tells what a plain map makes of it; all maps on the way stay as they were.
func TestScripts(t *testing.T) {
	for seed := range 60 {
		r := draw(seed)
		maps, models := []dict.Dict{{}}, []model{{}}
		for step := range 60 {
			at := len(maps) - 1 - min(r.next(4)*r.next(4), len(maps)-1)
			c := change{key: probes[r.next(len(probes))], value: fmt.Sprint(step), drop: r.next(3) == 0}
			d, m := c.of(maps[at], models[at])
			again, _ := c.of(maps[at], models[at])
			if !dict.Same(d, again) {
				t.Errorf("script %d, step %d: %v isn't the same again", seed, step, c)
			}
			isWhole(t, fmt.Sprintf("script %d, step %d: %v", seed, step, c), d, m)
			maps, models = append(maps, d), append(models, m)
		}
		for i, d := range maps {
			isWhole(t, fmt.Sprintf("script %d: map %d", seed, i), d, models[i])
		}
		isAs(t, fmt.Sprintf("script %d", seed), maps[len(maps)-1], models[len(maps)-1])
	}
}
