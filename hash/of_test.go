package hash_test

import (
	"crypto/sha256"
	"fmt"
	"slices"
	"strings"
	"testing"

	"twinspan/api"
	"twinspan/hash"
)

// want is the hash of a text, as another program makes it.
func want(s string) api.Hash {
	return sha256.Sum256([]byte(s))
}

// isHash tells what isn't the hash that it should be.
func isHash(t *testing.T, what string, got, want api.Hash) {
	t.Helper()
	if got != want {
		t.Errorf("%s: %x, want %x", what, got, want)
	}
}

// text is one of n bytes; kind says which ones.
func text(kind string, n int) string {
	l := make([]byte, n)
	for i := range l {
		switch kind {
		case "zeros": // as in what stands behind a text
		case "ones":
			l[i] = 0xff
		case "ends":
			l[i] = 0x80
		default:
			l[i] = byte(37*i + i>>8)
		}
	}
	return string(l)
}

func kinds() []string {
	return []string{"zeros", "ones", "ends", "many"}
}

// lengths are those around the ends of a block, of two and of three, and those at which the length needs a block of its own.
func lengths() []int {
	var l []int
	for _, n := range []int{0, 55, 64, 119, 128, 183, 192} {
		for m := max(n-3, 0); m <= n+3; m++ {
			l = append(l, m)
		}
	}
	return l
}

// P2.1: the chapter's examples, and those that are well known.
func TestExamples(t *testing.T) {
	for _, x := range []struct{ text, want string }{
		{"", "e3b0c44298fc1c149afbf4c8996fb92427ae41e4649b934ca495991b7852b855"},
		{"abc", "ba7816bf8f01cfea414140de5dae2223b00361a396177a9cb410ff61f20015ad"},
		{"abcdbcdecdefdefgefghfghighijhijkijkljklmklmnlmnomnopnopq", "248d6a61d20638b8e5c026930c3e6039a33ce45964ff2167f6ecedd419db06c1"},
		{strings.Repeat("a", 1000000), "cdc76e5c9914fb9281a1c7e284d73e67f1809a48a497200e046d39ccc7112cd0"},
	} {
		if got := fmt.Sprintf("%x", hash.Of(x.text)); got != x.want {
			t.Errorf("a text of %d bytes: %s, want %s", len(x.text), got, x.want)
		}
	}
}

// P2.1: texts of all lengths up to five blocks.
func TestLengths(t *testing.T) {
	for _, kind := range kinds() {
		for n := range 5*64 + 1 {
			s := text(kind, n)
			isHash(t, fmt.Sprint(kind, n), hash.Of(s), want(s))
		}
	}
}

// P2.1: each byte of a text, and each of its places, counts.
func TestEachByte(t *testing.T) {
	for value := range 256 {
		s := string([]byte{byte(value)})
		isHash(t, fmt.Sprint("the byte ", value), hash.Of(s), want(s))
	}
	for _, n := range []int{64, 119, 128} {
		l := []byte(text("many", n))
		for i := range l {
			l[i] ^= 0x80
			isHash(t, fmt.Sprint("another byte at ", i), hash.Of(string(l)), want(string(l)))
			l[i] ^= 0x80
		}
	}
}

// P2.1: a long text, whose length in bits has more than 32 bits, so that each byte of it but the greatest three counts.
func TestLong(t *testing.T) {
	piece := text("many", 1<<20+1)
	h, other := hash.New(), sha256.New()
	for range 1<<9 + 1 {
		h.Write(piece)
		other.Write([]byte(piece))
	}
	isHash(t, "a long text", h.Sum(), api.Hash(other.Sum(nil)))
	if n := h.Len(); n != (1<<9+1)*(1<<20+1) {
		t.Errorf("a long text: %d bytes", n)
	}
	isHash(t, "a text of a few blocks", hash.Of(piece), want(piece))
}

// P2.1: several texts are put together, empty ones among them.
func TestTogether(t *testing.T) {
	for _, l := range [][]string{
		nil, {}, {""}, {"", ""}, {"abc"}, {"a", "", "bc"}, {"", "abc"}, {"abc", ""}, {"", "a", "", "", "b", "c", ""}, {"c", "b", "a"},
		{text("many", 63), "x"}, {text("many", 63), "", "xy"}, {text("many", 64), ""}, {text("many", 64), text("ones", 64)},
		{text("many", 55), text("many", 9), text("many", 55), text("many", 9)}, {text("many", 200), "x", text("ends", 200)},
	} {
		whole := slices.Clone(l)
		isHash(t, fmt.Sprintf("%q", l), hash.Of(l...), want(strings.Join(l, "")))
		if !slices.Equal(l, whole) {
			t.Errorf("%q was changed: %q", whole, l)
		}
	}
}

// P2.3: each cut of a text into two and into three has the same hash.
func TestCuts(t *testing.T) {
	for _, n := range lengths() {
		s := text("many", n)
		whole := want(s)
		for i := range n + 1 {
			isHash(t, fmt.Sprintf("%d bytes, cut at %d", n, i), hash.Of(s[:i], s[i:]), whole)
		}
	}
	s := text("many", 130)
	whole := want(s)
	for i := range len(s) + 1 {
		for j := i; j <= len(s); j++ {
			isHash(t, fmt.Sprintf("cut at %d and %d", i, j), hash.Of(s[:i], s[i:j], s[j:]), whole)
		}
	}
}
