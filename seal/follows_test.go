package seal_test

import (
	"crypto/sha256"
	"fmt"
	"testing"

	"twinspan/api"
	"twinspan/seal"
)

// turned is s with a bit turned.
func turned(s string, bit int) string {
	l := []byte(s)
	l[bit/8] ^= 1 << (bit % 8)
	return string(l)
}

// alike tells where two keys don't seal alike (or do, where they should not).
func alike(t *testing.T, what, a, b string, want bool) {
	t.Helper()
	for _, s := range []string{"", "abc", text("many", 64), text("many", 200)} {
		x, y := seal.Of(a, s), seal.Of(b, s)
		isSaid(t, what+": the same seal", x == y, want)
		isSaid(t, what+": Right", seal.Right(a, s, y), want)
		isSaid(t, what+": Right, the other way round", seal.Right(b, s, x), want)
		isSaid(t, what+": the sealers' same seal", seal.New(a).Seal(s) == seal.New(b).Seal(s), want)
		isSaid(t, what+": Check", seal.New(a).Check(y, s), want)
	}
}

// P3.2: a key of more than 64 bytes and its hash seal alike; one of fewer doesn't seal as its hash does.
func TestKeyAndItsHash(t *testing.T) {
	for _, n := range keyLengths() {
		for _, kind := range kinds() {
			key := text(kind, n)
			sum := sha256.Sum256([]byte(key))
			alike(t, fmt.Sprintf("a key of %d bytes (%s), and its hash", n, kind), key, string(sum[:]), n > 64)
		}
	}
}

// P3.2: a key of fewer than 64 bytes, and it with a byte 0 behind, seal alike, as it does with all that go behind it; one of 64 or more doesn't.
func TestZerosBehind(t *testing.T) {
	for n := range 3 * 64 {
		key := text("many", n)
		alike(t, fmt.Sprintf("a key of %d bytes, and it with a byte 0 behind", n), key, key+"\x00", n < 64)
		alike(t, fmt.Sprintf("a key of %d bytes, and it with a byte 0 ahead", n), key, "\x00"+key, n == 0)
	}
	for _, n := range []int{0, 1, 2, 32, 63, 64} {
		key := text("many", n)
		alike(t, fmt.Sprintf("a key of %d bytes, and its block", n), key, key+text("zeros", 64-n), true)
		alike(t, fmt.Sprintf("a key of %d bytes, and one byte 0 too many", n), key, key+text("zeros", 65-n), false)
	}
}

// P3.2: a seal is right under its key, of its text; with any one bit turned it is not.
func TestBitsOfSeal(t *testing.T) {
	for _, x := range []struct{ key, text string }{
		{"", ""}, {"key", "abc"}, {text("many", 64), text("many", 64)}, {text("many", 130), text("ones", 300)},
	} {
		what := fmt.Sprintf("a key of %d bytes, a text of %d", len(x.key), len(x.text))
		mac := seal.Of(x.key, x.text)
		sealer := seal.New(x.key)
		isSaid(t, what+", Right", seal.Right(x.key, x.text, mac), true)
		isSaid(t, what+", Check", sealer.Check(mac, x.text), true)
		for bit := range 8 * len(mac) {
			wrong := api.Hash([]byte(turned(string(mac[:]), bit)))
			isSaid(t, fmt.Sprintf("%s, Right with the bit %d turned", what, bit), seal.Right(x.key, x.text, wrong), false)
			isSaid(t, fmt.Sprintf("%s, Check with the bit %d turned", what, bit), sealer.Check(wrong, x.text), false)
		}
	}
}

// P3.2: a seal is not right of another text: with any one bit turned, with a byte more, with one fewer.
func TestOtherTexts(t *testing.T) {
	for _, n := range []int{1, 3, 55, 56, 63, 64, 65, 130} {
		s := text("many", n)
		mac := seal.Of("key", s)
		isSaid(t, fmt.Sprintf("%d bytes", n), seal.Right("key", s, mac), true)
		for bit := range 8 * n {
			isSaid(t, fmt.Sprintf("%d bytes with the bit %d turned", n, bit), seal.Right("key", turned(s, bit), mac), false)
		}
		for _, other := range []string{"", s[1:], s[:n-1], s + "\x00", "\x00" + s, s + s} {
			isSaid(t, fmt.Sprintf("%d bytes instead of %d", len(other), n), seal.Right("key", other, mac), false)
		}
	}
}

// P3.2: a seal is not right under another key: with any one bit turned, shorter, longer.
func TestOtherKeys(t *testing.T) {
	for _, n := range []int{1, 3, 32, 63, 64, 65, 130} {
		key := text("many", n)
		mac := seal.Of(key, "abc")
		isSaid(t, fmt.Sprintf("a key of %d bytes", n), seal.Right(key, "abc", mac), true)
		for bit := range 8 * n {
			isSaid(t, fmt.Sprintf("a key of %d bytes with the bit %d turned", n, bit), seal.Right(turned(key, bit), "abc", mac), false)
		}
		for _, other := range []string{"", key[1:], key[:n-1], key + "\x01", "\x00" + key, key + key} {
			isSaid(t, fmt.Sprintf("a key of %d bytes instead of %d", len(other), n), seal.Right(other, "abc", mac), false)
		}
	}
}
