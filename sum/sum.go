// Package sum has CRC-32 and SHA-256, over parts, and a chain of sums.
package sum

import (
	"math/bits"

	"foliot/api"
)

// reversed is the polynomial of CRC-32, its lowest bit standing highest.
const reversed = 0xedb88320

const (
	blockSize  = 64
	lengthSize = 8 // bytes behind the filling of a SHA-256, with how many bits it has
)

// start is the eight numbers with which a SHA-256 begins.
var start = [8]uint32{
	0x6a09e667, 0xbb67ae85, 0x3c6ef372, 0xa54ff53a, 0x510e527f, 0x9b05688c, 0x1f83d9ab, 0x5be0cd19,
}

// rounds is one number for each round of a block.
var rounds = [64]uint32{
	0x428a2f98, 0x71374491, 0xb5c0fbcf, 0xe9b5dba5, 0x3956c25b, 0x59f111f1, 0x923f82a4, 0xab1c5ed5,
	0xd807aa98, 0x12835b01, 0x243185be, 0x550c7dc3, 0x72be5d74, 0x80deb1fe, 0x9bdc06a7, 0xc19bf174,
	0xe49b69c1, 0xefbe4786, 0x0fc19dc6, 0x240ca1cc, 0x2de92c6f, 0x4a7484aa, 0x5cb0a9dc, 0x76f988da,
	0x983e5152, 0xa831c66d, 0xb00327c8, 0xbf597fc7, 0xc6e00bf3, 0xd5a79147, 0x06ca6351, 0x14292967,
	0x27b70a85, 0x2e1b2138, 0x4d2c6dfc, 0x53380d13, 0x650a7354, 0x766a0abb, 0x81c2c92e, 0x92722c85,
	0xa2bfe8a1, 0xa81a664b, 0xc24b8b70, 0xc76c51a3, 0xd192e819, 0xd6990624, 0xf40e3585, 0x106aa070,
	0x19a4c116, 0x1e376c08, 0x2748774c, 0x34b0bcb5, 0x391c0cb3, 0x4ed8aa4a, 0x5b9cca4f, 0x682e6ff3,
	0x748f82ee, 0x78a5636f, 0x84c87814, 0x8cc70208, 0x90befffa, 0xa4506ceb, 0xbef9a3f7, 0xc67178f2,
}

// Hash is a SHA-256 that goes on. The zero one has no bytes yet.
type Hash struct {
	gained [8]uint32 // what start has gained by the blocks so far: so the zero Hash needs no beginning
	block  [blockSize]byte
	count  uint64 // bytes so far; those behind the last whole block stand in block
}

// CRC: the CRC-32 of parts, one behind the other.
func CRC(parts ...[]byte) uint32 {
	c := ^uint32(0)
	for _, part := range parts {
		for _, b := range part {
			c = crcByte(c, b)
		}
	}
	return ^c
}

func crcByte(c uint32, b byte) uint32 {
	c ^= uint32(b)
	for range 8 {
		c = c>>1 ^ reversed*(c&1)
	}
	return c
}

// Add: more bytes.
func (h *Hash) Add(parts ...[]byte) {
	for _, part := range parts {
		h.addPart(part)
	}
}

func (h *Hash) addPart(part []byte) {
	for len(part) > 0 {
		n := copy(h.block[h.count%blockSize:], part)
		part = part[n:]
		h.count += uint64(n)
		if h.count%blockSize == 0 {
			h.mix()
		}
	}
}

// mix takes the block, which is whole, into the eight numbers.
func (h *Hash) mix() {
	now := afterRounds(h.state(), h.words())
	for i := range 8 {
		h.gained[i] += now[i]
	}
}

// state: the eight numbers as they are now.
func (h *Hash) state() [8]uint32 {
	s := h.gained
	for i := range 8 {
		s[i] += start[i]
	}
	return s
}

// words: the block's 16 words, and the 48 that are made of them.
func (h *Hash) words() [64]uint32 {
	var w [64]uint32
	for i := range 16 {
		b := h.block[4*i:]
		w[i] = uint32(b[0])<<24 | uint32(b[1])<<16 | uint32(b[2])<<8 | uint32(b[3])
	}
	for i := range 48 {
		w[i+16] = w[i] + smallSigma(w[i+1], 7, 18, 3) + w[i+9] + smallSigma(w[i+14], 17, 19, 10)
	}
	return w
}

func smallSigma(x uint32, turn1, turn2, shift int) uint32 {
	return bits.RotateLeft32(x, -turn1) ^ bits.RotateLeft32(x, -turn2) ^ x>>shift
}

func bigSigma(x uint32, turn1, turn2, turn3 int) uint32 {
	return bits.RotateLeft32(x, -turn1) ^ bits.RotateLeft32(x, -turn2) ^ bits.RotateLeft32(x, -turn3)
}

// afterRounds: the eight numbers behind all rounds of a block. In it they are eight variables: an array would be copied each round.
func afterRounds(s [8]uint32, words [64]uint32) [8]uint32 {
	a, b, c, d, e, f, g, h := s[0], s[1], s[2], s[3], s[4], s[5], s[6], s[7]
	for i := range 64 {
		choice := e&f ^ ^e&g
		majority := a&b ^ a&c ^ b&c
		t := h + bigSigma(e, 6, 11, 25) + choice + words[i] + rounds[i]
		h, g, f, e = g, f, e, d+t
		d, c, b, a = c, b, a, t+bigSigma(a, 2, 13, 22)+majority
	}
	return [8]uint32{a, b, c, d, e, f, g, h}
}

// Sum: the sum of all bytes so far; it goes on as if nothing had been asked.
func (h *Hash) Sum() api.Sum {
	end := *h
	end.addPart(h.filling())
	var s api.Sum
	state := end.state()
	for i := range 8 {
		x := state[i]
		copy(s[4*i:], []byte{byte(x >> 24), byte(x >> 16), byte(x >> 8), byte(x)})
	}
	return s
}

// filling: what stands behind the last byte up to the end of a block: a bit 1, bits 0, and how many bits there were.
func (h *Hash) filling() []byte {
	n := blockSize - (h.count+lengthSize)%blockSize
	f := make([]byte, n+lengthSize)
	f[0] = 0x80
	for i := range lengthSize {
		f[len(f)-1-i] = byte(h.count << 3 >> (8 * i))
	}
	return f
}

// Of: the SHA-256 of parts, one behind the other.
func Of(parts ...[]byte) api.Sum {
	var h Hash
	h.Add(parts...)
	return h.Sum()
}

// Link: a chain's sum behind another one: that of the sum ahead of it, and of the bytes.
func Link(prev api.Sum, b []byte) api.Sum { return Of(prev[:], b) }

// Chain: the sums of a chain of texts, one behind the other, from a sum on.
func Chain(first api.Sum, list ...[]byte) []api.Sum {
	sums := make([]api.Sum, len(list))
	prev := first
	for i, b := range list {
		prev = Link(prev, b)
		sums[i] = prev
	}
	return sums
}
