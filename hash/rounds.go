package hash

import (
	"math/bits"

	"twinspan/api"
)

// blockSize is how many bytes are hashed at a time, rounds how many rounds there are for them.
const (
	blockSize = 64
	rounds    = 64
)

type block [blockSize]byte

// first are the first 32 bits behind the point of the square roots of the first eight primes.
var first = [8]uint32{
	0x6a09e667, 0xbb67ae85, 0x3c6ef372, 0xa54ff53a,
	0x510e527f, 0x9b05688c, 0x1f83d9ab, 0x5be0cd19,
}

// ofRound are the first 32 bits behind the point of the cube roots of the first 64 primes.
var ofRound = [rounds]uint32{
	0x428a2f98, 0x71374491, 0xb5c0fbcf, 0xe9b5dba5,
	0x3956c25b, 0x59f111f1, 0x923f82a4, 0xab1c5ed5,
	0xd807aa98, 0x12835b01, 0x243185be, 0x550c7dc3,
	0x72be5d74, 0x80deb1fe, 0x9bdc06a7, 0xc19bf174,
	0xe49b69c1, 0xefbe4786, 0x0fc19dc6, 0x240ca1cc,
	0x2de92c6f, 0x4a7484aa, 0x5cb0a9dc, 0x76f988da,
	0x983e5152, 0xa831c66d, 0xb00327c8, 0xbf597fc7,
	0xc6e00bf3, 0xd5a79147, 0x06ca6351, 0x14292967,
	0x27b70a85, 0x2e1b2138, 0x4d2c6dfc, 0x53380d13,
	0x650a7354, 0x766a0abb, 0x81c2c92e, 0x92722c85,
	0xa2bfe8a1, 0xa81a664b, 0xc24b8b70, 0xc76c51a3,
	0xd192e819, 0xd6990624, 0xf40e3585, 0x106aa070,
	0x19a4c116, 0x1e376c08, 0x2748774c, 0x34b0bcb5,
	0x391c0cb3, 0x4ed8aa4a, 0x5b9cca4f, 0x682e6ff3,
	0x748f82ee, 0x78a5636f, 0x84c87814, 0x8cc70208,
	0x90befffa, 0xa4506ceb, 0xbef9a3f7, 0xc67178f2,
}

// numbers are what the blocks so far have added to the first numbers: kept without these, so that a zero hasher is a new one.
type numbers [8]uint32

// mix has one more block go into the numbers.
func (l *numbers) mix(full *block) {
	w := full.widened()
	old := l.whole()
	a, b, c, d, e, f, g, h := old[0], old[1], old[2], old[3], old[4], old[5], old[6], old[7]
	for i := range rounds {
		t := h + turned(e, 6, 11, 25) + choice(e, f, g) + ofRound[i] + w[i]
		u := turned(a, 2, 13, 22) + most(a, b, c)
		h, g, f, e, d, c, b, a = g, f, e, d+t, c, b, a, t+u
	}
	for i, x := range [len(l)]uint32{a, b, c, d, e, f, g, h} {
		l[i] += x
	}
}

// whole are the numbers, with the first ones.
func (l *numbers) whole() numbers {
	var told numbers
	for i := range len(told) {
		told[i] = first[i] + l[i]
	}
	return told
}

// hash is the numbers, the greatest byte of each first.
func (l *numbers) hash() api.Hash {
	var told api.Hash
	for i, x := range l.whole() {
		for j := range 4 {
			told[4*i+j] = byte(x >> (24 - 8*j))
		}
	}
	return told
}

// widened are the numbers that a block gives to the rounds.
func (b *block) widened() [rounds]uint32 {
	var w [rounds]uint32
	for i := range blockSize / 4 {
		w[i] = uint32(b[4*i])<<24 | uint32(b[4*i+1])<<16 | uint32(b[4*i+2])<<8 | uint32(b[4*i+3])
	}
	for i := blockSize / 4; i < rounds; i++ {
		w[i] = moved(w[i-2], 17, 19, 10) + w[i-7] + moved(w[i-15], 7, 18, 3) + w[i-16]
	}
	return w
}

// turned is x turned right by each of three: the exclusive or.
func turned(x uint32, i, j, k int) uint32 {
	return bits.RotateLeft32(x, -i) ^ bits.RotateLeft32(x, -j) ^ bits.RotateLeft32(x, -k)
}

// moved is x turned right by i and by j, and moved right by k: the exclusive or.
func moved(x uint32, i, j, k int) uint32 {
	return bits.RotateLeft32(x, -i) ^ bits.RotateLeft32(x, -j) ^ x>>k
}

// choice is y where x is 1, else z: told with the fewest steps, as each round asks it.
func choice(x, y, z uint32) uint32 {
	return z ^ x&(y^z)
}

// most is what two of three are: told with the fewest steps, as each round asks it.
func most(x, y, z uint32) uint32 {
	return x&y | z&(x|y)
}
