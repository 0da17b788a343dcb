// Package keccak is layer 1: Keccak-256, the permutation of FIPS 202 with Ethereum's padding.
package keccak

import "math/bits"

const (
	rounds = 24
	rate   = 136 // bytes of a block
	lanes  = rate / 8
)

// offsets is by how many bits lane x + 5y is turned.
var offsets = [25]int{
	0, 1, 62, 28, 27,
	36, 44, 6, 55, 20,
	3, 10, 43, 25, 39,
	41, 45, 15, 21, 8,
	18, 2, 61, 56, 14,
}

// targets is where lane x + 5y goes: to lane y + 5(2x + 3y).
var targets = [25]int{
	0, 10, 20, 5, 15,
	16, 1, 11, 21, 6,
	7, 17, 2, 12, 22,
	23, 8, 18, 3, 13,
	14, 24, 9, 19, 4,
}

// constants is what each round puts into lane 0.
var constants = [rounds]uint64{
	0x0000000000000001, 0x0000000000008082, 0x800000000000808a,
	0x8000000080008000, 0x000000000000808b, 0x0000000080000001,
	0x8000000080008081, 0x8000000000008009, 0x000000000000008a,
	0x0000000000000088, 0x0000000080008009, 0x000000008000000a,
	0x000000008000808b, 0x800000000000008b, 0x8000000000008089,
	0x8000000000008003, 0x8000000000008002, 0x8000000000000080,
	0x000000000000800a, 0x800000008000000a, 0x8000000080008081,
	0x8000000000008080, 0x0000000080000001, 0x8000000080008008,
}

// Permute is the permutation.
func Permute(a [25]uint64) [25]uint64 {
	for i := range rounds {
		mixColumns(&a)
		moveLanes(&a)
		mixRows(&a)
		a[0] ^= constants[i]
	}
	return a
}

// mixColumns puts the parities of the two columns beside it into each lane.
func mixColumns(a *[25]uint64) {
	c0 := a[0] ^ a[5] ^ a[10] ^ a[15] ^ a[20]
	c1 := a[1] ^ a[6] ^ a[11] ^ a[16] ^ a[21]
	c2 := a[2] ^ a[7] ^ a[12] ^ a[17] ^ a[22]
	c3 := a[3] ^ a[8] ^ a[13] ^ a[18] ^ a[23]
	c4 := a[4] ^ a[9] ^ a[14] ^ a[19] ^ a[24]
	d0 := c4 ^ bits.RotateLeft64(c1, 1)
	d1 := c0 ^ bits.RotateLeft64(c2, 1)
	d2 := c1 ^ bits.RotateLeft64(c3, 1)
	d3 := c2 ^ bits.RotateLeft64(c4, 1)
	d4 := c3 ^ bits.RotateLeft64(c0, 1)
	for y := 0; y < 25; y += 5 {
		a[y] ^= d0
		a[y+1] ^= d1
		a[y+2] ^= d2
		a[y+3] ^= d3
		a[y+4] ^= d4
	}
}

// moveLanes turns each lane and puts it where it goes.
func moveLanes(a *[25]uint64) {
	b := *a
	for i := range 25 {
		a[targets[i]] = bits.RotateLeft64(b[i], offsets[i])
	}
}

// mixRows is the one step that is not linear: each lane with the next two of its row.
func mixRows(a *[25]uint64) {
	for y := 0; y < 25; y += 5 {
		b0, b1, b2, b3, b4 := a[y], a[y+1], a[y+2], a[y+3], a[y+4]
		a[y] = b0 ^ (^b1 & b2)
		a[y+1] = b1 ^ (^b2 & b3)
		a[y+2] = b2 ^ (^b3 & b4)
		a[y+3] = b3 ^ (^b4 & b0)
		a[y+4] = b4 ^ (^b0 & b1)
	}
}

// absorb is the state behind one more block.
func absorb(state [25]uint64, block [rate]byte) [25]uint64 {
	for i := range lanes {
		var lane uint64
		for j := range 8 {
			lane |= uint64(block[8*i+j]) << (8 * j)
		}
		state[i] ^= lane
	}
	return Permute(state)
}

// squeeze is the hash that a state tells.
func squeeze(state [25]uint64) [32]byte {
	var sum [32]byte
	for i := range sum {
		sum[i] = byte(state[i/8] >> (8 * (i % 8)))
	}
	return sum
}

// Sum is the hash of parts.
func Sum(parts ...string) [32]byte {
	var h Hash
	for _, p := range parts {
		h.Write(p)
	}
	return h.Sum()
}

// Hash is one under way. All of it are values, so that a zero one is one of nothing, and a copy goes its own way.
type Hash struct {
	state [25]uint64
	block [rate]byte // its first size % rate bytes wait for the rest of their block
	size  int
}

// New is one of nothing; Write, Sum, Reset and Len are its own.
func New() *Hash { return &Hash{} }

// Write puts p behind what there is, and tells how many bytes it has.
func (h *Hash) Write(p string) int {
	if h == nil {
		return 0
	}
	for rest := p; len(rest) > 0; {
		n := copy(h.block[h.size%rate:], rest)
		rest = rest[n:]
		h.size += n
		if h.size%rate == 0 {
			h.state = absorb(h.state, h.block)
		}
	}
	return len(p)
}

// Sum is the hash of all that was written. The padding goes into a block of its own, so that more may be written behind it.
func (h *Hash) Sum() [32]byte {
	if h == nil {
		return [32]byte{}
	}
	var last [rate]byte
	n := copy(last[:], h.block[:h.size%rate])
	last[n] ^= 0x01
	last[rate-1] ^= 0x80
	return squeeze(absorb(h.state, last))
}

// Reset makes it one of nothing again.
func (h *Hash) Reset() {
	if h != nil {
		*h = Hash{}
	}
}

// Len is how many bytes were written.
func (h *Hash) Len() int {
	if h == nil {
		return 0
	}
	return h.size
}
