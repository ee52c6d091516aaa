// Package hash is layer 1: SHA-256, all at once or piece by piece. See shared/doc/01-hash.md.
package hash

import "math/bits"

const (
	blockSize   = 64            // bytes of a block
	lengthPlace = blockSize - 8 // where the length stands in the last block
	steps       = 64            // steps by which a block is worked in
)

// startWords are the chapter's H: the first 32 bits behind the point of the square roots of the first 8 primes.
var startWords = [8]uint32{
	0x6a09e667, 0xbb67ae85, 0x3c6ef372, 0xa54ff53a, 0x510e527f, 0x9b05688c, 0x1f83d9ab, 0x5be0cd19,
}

// stepWords are the chapter's K: the first 32 bits behind the point of the cube roots of the first 64 primes.
var stepWords = [steps]uint32{
	0x428a2f98, 0x71374491, 0xb5c0fbcf, 0xe9b5dba5, 0x3956c25b, 0x59f111f1, 0x923f82a4, 0xab1c5ed5,
	0xd807aa98, 0x12835b01, 0x243185be, 0x550c7dc3, 0x72be5d74, 0x80deb1fe, 0x9bdc06a7, 0xc19bf174,
	0xe49b69c1, 0xefbe4786, 0x0fc19dc6, 0x240ca1cc, 0x2de92c6f, 0x4a7484aa, 0x5cb0a9dc, 0x76f988da,
	0x983e5152, 0xa831c66d, 0xb00327c8, 0xbf597fc7, 0xc6e00bf3, 0xd5a79147, 0x06ca6351, 0x14292967,
	0x27b70a85, 0x2e1b2138, 0x4d2c6dfc, 0x53380d13, 0x650a7354, 0x766a0abb, 0x81c2c92e, 0x92722c85,
	0xa2bfe8a1, 0xa81a664b, 0xc24b8b70, 0xc76c51a3, 0xd192e819, 0xd6990624, 0xf40e3585, 0x106aa070,
	0x19a4c116, 0x1e376c08, 0x2748774c, 0x34b0bcb5, 0x391c0cb3, 0x4ed8aa4a, 0x5b9cca4f, 0x682e6ff3,
	0x748f82ee, 0x78a5636f, 0x84c87814, 0x8cc70208, 0x90befffa, 0xa4506ceb, 0xbef9a3f7, 0xc67178f2,
}

// A Hash is a SHA-256 under way. It is a value: a copy goes its own way.
type Hash struct {
	grown  [8]uint32       // by how much the state is past startWords: not the state itself, so that the zero Hash has taken in nothing
	rest   [blockSize]byte // the bytes behind the last whole block, and noughts behind them, which the padding counts on
	length uint64          // how many bytes were taken in, modulo 2^64
}

// New: nothing taken in yet.
func New() Hash { return Hash{} }

// Add: the hash with p behind what was taken in.
func (h Hash) Add(p []byte) Hash {
	for len(p) > 0 {
		have := int(h.length % blockSize)
		n := copy(h.rest[have:], p)
		h.length += uint64(n)
		p = p[n:]
		if have+n == blockSize {
			h = h.workedIn()
		}
	}
	return h
}

// Sum: the digest of what was taken in.
func (h Hash) Sum() [32]byte {
	return digest(h.padded().state())
}

// Sum: the digest of p.
func Sum(p []byte) [32]byte { return New().Add(p).Sum() }

// padded: the hash with the padding behind what was taken in, so that no bytes are left over.
func (h Hash) padded() Hash {
	have := h.length % blockSize
	h.rest[have] = 0x80
	if have >= lengthPlace { // the length does not fit any more
		h = h.workedIn()
	}
	for i := range 8 {
		h.rest[lengthPlace+i] = byte(h.length * 8 >> (56 - 8*i))
	}
	return h.workedIn()
}

// workedIn: the hash with rest, now a whole block, worked into the state.
func (h Hash) workedIn() Hash {
	for i, x := range stirred(h.state(), h.rest) {
		h.grown[i] += x
	}
	h.rest = [blockSize]byte{}
	return h
}

// state: the chapter's eight words.
func (h Hash) state() [8]uint32 {
	var s [8]uint32
	for i := range s {
		s[i] = startWords[i] + h.grown[i]
	}
	return s
}

// stirred: what a block makes of the state's words, before the old ones are added.
func stirred(state [8]uint32, block [blockSize]byte) [8]uint32 {
	w := schedule(block)
	a, b, c, d := state[0], state[1], state[2], state[3]
	e, f, g, h := state[4], state[5], state[6], state[7]
	for t := range steps {
		t1 := h + bigSigma1(e) + (e&f ^ ^e&g) + stepWords[t] + w[t]
		t2 := bigSigma0(a) + (a&b ^ a&c ^ b&c)
		h, g, f, e, d, c, b, a = g, f, e, d+t1, c, b, a, t1+t2
	}
	return [8]uint32{a, b, c, d, e, f, g, h}
}

// schedule: the block's 16 words, and those that follow from them, a word a step.
func schedule(block [blockSize]byte) [steps]uint32 {
	var w [steps]uint32
	for i, b := range block {
		w[i/4] = w[i/4]<<8 | uint32(b)
	}
	for t := 16; t < steps; t++ {
		w[t] = smallSigma1(w[t-2]) + w[t-7] + smallSigma0(w[t-15]) + w[t-16]
	}
	return w
}

// digest: the words as bytes.
func digest(state [8]uint32) [32]byte {
	var d [32]byte
	for i := range d {
		d[i] = byte(state[i/4] >> (24 - 8*(i%4)))
	}
	return d
}

func smallSigma0(x uint32) uint32 { return turned(x, 7) ^ turned(x, 18) ^ x>>3 }
func smallSigma1(x uint32) uint32 { return turned(x, 17) ^ turned(x, 19) ^ x>>10 }
func bigSigma0(x uint32) uint32   { return turned(x, 2) ^ turned(x, 13) ^ turned(x, 22) }
func bigSigma1(x uint32) uint32   { return turned(x, 6) ^ turned(x, 11) ^ turned(x, 25) }

// turned: x turned to the right by n places.
func turned(x uint32, n int) uint32 { return bits.RotateLeft32(x, -n) }
