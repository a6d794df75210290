package seal_test

import (
	"fmt"
	"slices"
	"strings"
	"testing"

	"twinspan/api"
	"twinspan/seal"
)

// lists are texts that are put together.
func lists() [][]string {
	return [][]string{
		nil, {}, {""}, {"", "", ""}, {"abc"}, {"a", "bc"}, {"a", "", "b", "c"}, {"", "abc", ""}, {"c", "b", "a"},
		{text("many", 63), "x"}, {text("many", 64), "", "x"}, {text("many", 64), text("ones", 64)},
		{text("many", 55), text("many", 9), "", text("many", 200)}, {text("zeros", 1), text("inner", 64), text("outer", 64)},
		slices.Repeat([]string{"ab", ""}, 500),
	}
}

// seals tells what isn't so of a sealer that should have the key.
func seals(t *testing.T, what string, x *seal.Sealer, key string) {
	t.Helper()
	for _, l := range lists() {
		what := fmt.Sprintf("%s, %d texts of %d bytes", what, len(l), len(strings.Join(l, "")))
		mac := want(key, strings.Join(l, ""))
		isSeal(t, what, x.Seal(l...), mac)
		isSaid(t, what+", Check", x.Check(mac, l...), true)
		isSaid(t, what+", Check of one more", x.Check(mac, append(slices.Clone(l), "x")...), false)
		isSaid(t, what+", Check of another key's", x.Check(want(key+"x", strings.Join(l, "")), l...), false)
		isSaid(t, what+", Check of no seal", x.Check(api.Hash{}, l...), false)
		mac[31] ^= 1
		isSaid(t, what+", Check of a wrong seal", x.Check(mac, l...), false)
	}
	isSeal(t, what+", no text at all", x.Seal(), want(key, ""))
	isSaid(t, what+", no text at all, Check", x.Check(want(key, "")), true)
}

// P3.1: a sealer seals texts put together, and checks their seals, with keys of all lengths.
func TestSealers(t *testing.T) {
	for _, n := range keyLengths() {
		for _, kind := range kinds() {
			key := text(kind, n)
			seals(t, fmt.Sprintf("a key of %d bytes (%s)", n, kind), seal.New(key), key)
		}
	}
}

// P3.1: however a text is cut, empty pieces among them, its seal is the same.
func TestCuts(t *testing.T) {
	s := text("many", 130)
	mac := want("key", s)
	x := seal.New("key")
	for i := range len(s) + 1 {
		for j := i; j <= len(s); j++ {
			what := fmt.Sprintf("cut at %d and %d", i, j)
			isSeal(t, what, x.Seal(s[:i], s[i:j], s[j:]), mac)
			isSaid(t, what+", Check", x.Check(mac, s[:i], "", s[i:j], s[j:]), true)
		}
	}
	isSeal(t, "byte by byte", x.Seal(strings.Split(strings.Repeat("a", 300), "")...), want("key", strings.Repeat("a", 300)))
}

// P3.1: the order of texts counts.
func TestOrder(t *testing.T) {
	x := seal.New("key")
	isSeal(t, "one order", x.Seal("a", "bc"), want("key", "abc"))
	isSeal(t, "the other one", x.Seal("bc", "a"), want("key", "bca"))
	isSaid(t, "the other one's", x.Check(x.Seal("bc", "a"), "a", "bc"), false)
	isSaid(t, "the same, cut otherwise", x.Check(x.Seal("ab", "c"), "a", "bc"), true)
}

// R4: a sealer seals again and again, in any order, with the same answers.
func TestAgain(t *testing.T) {
	key := text("many", 100)
	x := seal.New(key)
	l := lists()
	for step := 1; step < len(l); step++ {
		for i := range l {
			one := l[i*step%len(l)]
			mac := want(key, strings.Join(one, ""))
			what := fmt.Sprintf("%d texts, with a step of %d", len(one), step)
			isSeal(t, what, x.Seal(one...), mac)
			isSaid(t, what+", Check", x.Check(mac, one...), true)
			isSaid(t, what+", Check of no seal", x.Check(api.Hash{}, one...), false)
			isSeal(t, what+", again", x.Seal(one...), mac)
		}
	}
}

// P3.1: each sealer has its own key, whatever other ones do.
func TestSealersApart(t *testing.T) {
	a, b, again := seal.New("a"), seal.New("b"), seal.New("a")
	if a == nil || a == b || a == again {
		t.Fatal("New: not a sealer of its own")
	}
	seals(t, "a", a, "a")
	seals(t, "b", b, "b")
	seals(t, "another a", again, "a")
	isSaid(t, "the seal of one, under the other", b.Check(a.Seal("x"), "x"), false)
	isSaid(t, "the seal of one, under its like", again.Check(a.Seal("x"), "x"), true)
	aside := *a
	*a = *b
	seals(t, "one that was put aside", &aside, "a")
	seals(t, "one that became another", a, "b")
}

// R3: what is handed in stays as it is, and may be changed behind the call; what was told is its owner's.
func TestOwn(t *testing.T) {
	x := seal.New("key")
	l := []string{"a", "b", "c", "d"}
	mac := x.Seal(l[:2]...)
	said := x.Check(mac, l[:2]...)
	if !said || !slices.Equal(l, []string{"a", "b", "c", "d"}) {
		t.Errorf("Check: %v, the list became %q", said, l)
	}
	l[0] = "x"
	isSeal(t, "of a list that was changed", mac, want("key", "ab"))
	for i := range mac {
		mac[i] = 0
	}
	isSeal(t, "behind it", x.Seal("a", "b"), want("key", "ab"))
}

// A nil sealer and a zero one have the empty key.
func TestNoKey(t *testing.T) {
	var none *seal.Sealer
	seals(t, "a nil sealer", none, "")
	if none != nil {
		t.Error("a nil sealer became one")
	}
	seals(t, "a zero one", new(seal.Sealer), "")
	seals(t, "one of the empty key", seal.New(""), "")
	x := seal.New("key")
	*x = seal.Sealer{}
	seals(t, "one that was set to zero", x, "")
	isSaid(t, "a nil one's seal", seal.Right("", "abc", none.Seal("abc")), true)
	isSaid(t, "a nil one, with a key's seal", none.Check(seal.Of("key", "abc"), "abc"), false)
}
