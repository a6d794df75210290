package hash_test

import (
	"fmt"
	"testing"

	"twinspan/hash"
)

// has tells what isn't so of a hasher that should have s.
func has(t *testing.T, what string, h *hash.Hasher, s string) {
	t.Helper()
	isHash(t, what, h.Sum(), want(s))
	if n := h.Len(); n != len(s) {
		t.Errorf("%s: %d bytes, want %d", what, n, len(s))
	}
}

// P2.1: a new hasher has nothing, however many others there are.
func TestNew(t *testing.T) {
	h, other := hash.New(), hash.New()
	if h == nil || h == other {
		t.Fatal("New: not a hasher of its own")
	}
	has(t, "a new one", h, "")
	other.Write("abc")
	has(t, "a new one beside another", h, "")
	has(t, "the other one", other, "abc")
	has(t, "a new one behind another", hash.New(), "")
}

// P2.1: each text stands behind what the hasher has; Sum, asked between two Writes and twice, changes nothing.
func TestSumBetween(t *testing.T) {
	for _, step := range []int{0, 1, 7, 55, 56, 63, 64, 65, 128, 200} {
		h, all := hash.New(), ""
		for i := range 20 {
			s := text(kinds()[i%len(kinds())], step)
			h.Write(s)
			all += s
			what := fmt.Sprintf("%d times %d bytes", i+1, step)
			has(t, what, h, all)
			has(t, what+", asked twice", h, all)
		}
	}
}

// P2.1: Sum at each length, on the way.
func TestByteByByte(t *testing.T) {
	h := hash.New()
	s := text("many", 300)
	for i := range len(s) {
		has(t, fmt.Sprint(i, " bytes"), h, s[:i])
		h.Write(s[i : i+1])
		h.Write("")
	}
	has(t, "all", h, s)
}

// P2.3: pieces of all lengths, at all places of a block, Sum asked on the way or not.
func TestPieces(t *testing.T) {
	for _, n := range lengths() {
		s := text("many", n)
		for i := range n + 1 {
			h := hash.New()
			h.Write(s[:i])
			if i%2 == 0 {
				has(t, fmt.Sprint("the first ", i), h, s[:i])
			}
			h.Write(s[i:])
			has(t, fmt.Sprintf("%d bytes, cut at %d", n, i), h, s)
		}
	}
	s := text("many", 500)
	for step := 1; step <= len(s); step++ {
		h := hash.New()
		for i := 0; i < len(s); i += step {
			h.Write(s[i:min(i+step, len(s))])
		}
		has(t, fmt.Sprintf("pieces of %d", step), h, s)
	}
}

// R3: a hash that was told is its owner's; a hasher that was put aside is one of its own.
func TestOwn(t *testing.T) {
	h := hash.New()
	h.Write("abc")
	x := h.Sum()
	aside := *h
	h.Write(text("many", 100))
	isHash(t, "what was told", x, want("abc"))
	for i := range x {
		x[i] = 0
	}
	has(t, "behind it", h, "abc"+text("many", 100))
	aside.Write("d")
	has(t, "the one put aside", &aside, "abcd")
	has(t, "beside it", h, "abc"+text("many", 100))
}

// A nil hasher: Write does nothing; the hash of nothing; 0.
func TestNilHasher(t *testing.T) {
	var h *hash.Hasher
	for _, s := range []string{"", "abc", text("many", 200)} {
		has(t, "a nil one", h, "")
		h.Write(s)
		has(t, "a nil one behind Write", h, "")
	}
}

// A zero hasher is New().
func TestZeroHasher(t *testing.T) {
	for _, n := range lengths() {
		var h hash.Hasher
		has(t, "a zero one", &h, "")
		s := text("many", n)
		h.Write(s)
		has(t, fmt.Sprintf("a zero one behind %d bytes", n), &h, s)
		h.Write("x")
		has(t, fmt.Sprintf("a zero one behind %d bytes and one", n), &h, s+"x")
		h = hash.Hasher{}
		has(t, "one that was set to zero", &h, "")
	}
}

// R4: the same calls have the same answers.
func TestSame(t *testing.T) {
	for range 10 {
		for _, n := range lengths() {
			s := text("many", n)
			isHash(t, "again", hash.Of(s), want(s))
		}
	}
}
