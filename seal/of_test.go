package seal_test

import (
	"crypto/hmac"
	"crypto/sha256"
	"fmt"
	"strings"
	"testing"

	"twinspan/api"
	"twinspan/seal"
)

// want is the seal of a text under a key, as another program makes it.
func want(key, s string) api.Hash {
	h := hmac.New(sha256.New, []byte(key))
	h.Write([]byte(s))
	return api.Hash(h.Sum(nil))
}

// isSeal tells what isn't the seal that it should be.
func isSeal(t *testing.T, what string, got, want api.Hash) {
	t.Helper()
	if got != want {
		t.Errorf("%s: %x, want %x", what, got, want)
	}
}

// isSaid tells what isn't said as it should be.
func isSaid(t *testing.T, what string, got, want bool) {
	t.Helper()
	if got != want {
		t.Errorf("%s: %v, want %v", what, got, want)
	}
}

// text is one of n bytes; kind says which ones.
func text(kind string, n int) string {
	l := make([]byte, n)
	for i := range l {
		switch kind {
		case "zeros": // as in what stands behind a key
		case "ones":
			l[i] = 0xff
		case "inner": // what a block's bytes are put to 0 by
			l[i] = 0x36
		case "outer":
			l[i] = 0x5c
		default:
			l[i] = byte(37*i + i>>8 + 1)
		}
	}
	return string(l)
}

func kinds() []string {
	return []string{"zeros", "ones", "inner", "outer", "many"}
}

// keyLengths are those around a key's block, around a hash, and beyond two blocks.
func keyLengths() []int {
	return []int{0, 1, 2, 31, 32, 33, 62, 63, 64, 65, 66, 80, 127, 128, 129, 130, 200, 1000}
}

// lengths are those of a text around the ends of a block, and those at which its own length needs a block of its own.
func lengths() []int {
	return []int{0, 1, 54, 55, 56, 57, 62, 63, 64, 65, 66, 118, 119, 120, 127, 128, 129, 192, 1000}
}

// P3.1: the chapter's example, and those of RFC 4231.
func TestExamples(t *testing.T) {
	bytes := func(s string, n int) string { return strings.Repeat(s, n) }
	count := "\x01\x02\x03\x04\x05\x06\x07\x08\x09\x0a\x0b\x0c\x0d\x0e\x0f\x10\x11\x12\x13\x14\x15\x16\x17\x18\x19"
	for _, x := range []struct{ key, text, want string }{
		{"key", "The quick brown fox jumps over the lazy dog", "f7bc83f430538424b13298e6aa6fb143ef4d59a14946175997479dbc2d1a3cd8"},
		{"", "", "b613679a0814d9ec772f95d778c35fc5ff1697c493715653c6c712144292c5ad"},
		{bytes("\x0b", 20), "Hi There", "b0344c61d8db38535ca8afceaf0bf12b881dc200c9833da726e9376c2e32cff7"},
		{"Jefe", "what do ya want for nothing?", "5bdcc146bf60754e6a042426089575c75a003f089d2739839dec58b964ec3843"},
		{bytes("\xaa", 20), bytes("\xdd", 50), "773ea91e36800e46854db8ebd09181a72959098b3ef8c122d9635514ced565fe"},
		{count, bytes("\xcd", 50), "82558a389a443c0ea4cc819899f2083a85f0faa3e578f8077a2e3ff46729665b"},
		{bytes("\xaa", 131), "Test Using Larger Than Block-Size Key - Hash Key First", "60e431591ee0b67f0d8a26aacbf5b77f8e0bc6213728c5140546040f0ee37f54"},
		{bytes("\xaa", 131), "This is a test using a larger than block-size key and a larger than block-size data. The key needs to be hashed before being used by the HMAC algorithm.", "9b09ffa71b942fcb27635fbcd5b0e944bfdc63644f0713938a7f51535c3a35e2"},
	} {
		if got := fmt.Sprintf("%x", seal.Of(x.key, x.text)); got != x.want {
			t.Errorf("a key of %d bytes, %q: %s, want %s", len(x.key), x.text, got, x.want)
		}
	}
}

// P3.1: keys and texts of all those lengths, of all kinds.
func TestLengths(t *testing.T) {
	for _, keyKind := range kinds() {
		for _, k := range keyLengths() {
			for _, kind := range kinds() {
				for _, n := range lengths() {
					key, s := text(keyKind, k), text(kind, n)
					what := fmt.Sprintf("a key of %d bytes (%s), a text of %d (%s)", k, keyKind, n, kind)
					mac := want(key, s)
					isSeal(t, what, seal.Of(key, s), mac)
					isSaid(t, what+", Right", seal.Right(key, s, mac), true)
				}
			}
		}
	}
}

// P3.1: keys of each length up to three blocks.
func TestEachKeyLength(t *testing.T) {
	for n := range 3*64 + 1 {
		key := text("many", n)
		isSeal(t, fmt.Sprintf("a key of %d bytes", n), seal.Of(key, "abc"), want(key, "abc"))
	}
}

// P3.1: each byte may stand in a key, and in a text.
func TestEachByte(t *testing.T) {
	for value := range 256 {
		s := string([]byte{byte(value)})
		what := fmt.Sprint("the byte ", value)
		isSeal(t, what+" as a key", seal.Of(s, "abc"), want(s, "abc"))
		isSeal(t, what+" as a text", seal.Of("key", s), want("key", s))
	}
}

// P3.1: a long key, and a long text.
func TestLong(t *testing.T) {
	long := text("many", 1<<22+1)
	isSeal(t, "a long text", seal.Of("key", long), want("key", long))
	isSeal(t, "a long key", seal.Of(long, "abc"), want(long, "abc"))
	isSeal(t, "both", seal.Of(long, long), want(long, long))
}

// P3.1: what Right says of seals that are none: of nothing, of the text's hash, of key and text put together, of both the other way round.
func TestWrong(t *testing.T) {
	for _, x := range []struct{ key, text string }{
		{"", ""}, {"k", "x"}, {"key", "text"}, {text("many", 64), "x"}, {text("many", 65), ""},
	} {
		what := fmt.Sprintf("%q under %q", x.text, x.key)
		isSaid(t, what+", no seal", seal.Right(x.key, x.text, api.Hash{}), false)
		isSaid(t, what+", its hash", seal.Right(x.key, x.text, sha256.Sum256([]byte(x.text))), false)
		isSaid(t, what+", the hash of both", seal.Right(x.key, x.text, sha256.Sum256([]byte(x.key+x.text))), false)
		isSaid(t, what+", the other way round", seal.Right(x.key, x.text, want(x.text, x.key)), x.key == x.text)
	}
}
