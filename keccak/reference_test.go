package keccak

// The permutation and the hash once more, word for word by the rules of the chapter and without its tables, for the tests to hold the package against.

func rot(v uint64, n int) uint64 { return v<<(n%64) | v>>(64-n%64) }

// registerBit is rc(t).
func registerBit(t int) uint64 {
	r := uint64(1)
	for range t % 255 {
		r <<= 1
		if r&0x100 != 0 {
			r ^= 0x171
		}
	}
	return r & 1
}

func ruleConstant(round int) uint64 {
	var c uint64
	for j := range 7 {
		c |= registerBit(j+7*round) << (1<<j - 1)
	}
	return c
}

func ruleOffsets() [5][5]int {
	var r [5][5]int
	x, y := 1, 0
	for t := range 24 {
		r[x][y] = (t + 1) * (t + 2) / 2 % 64
		x, y = y, (2*x+3*y)%5
	}
	return r
}

func rulePermute(in [25]uint64) [25]uint64 {
	var a, b [5][5]uint64
	for i, v := range in {
		a[i%5][i/5] = v
	}
	r := ruleOffsets()
	for i := range 24 {
		var c [5]uint64
		for x := range 5 {
			for y := range 5 {
				c[x] ^= a[x][y]
			}
		}
		for x := range 5 {
			for y := range 5 {
				d := c[(x+4)%5] ^ rot(c[(x+1)%5], 1)
				b[y][(2*x+3*y)%5] = rot(a[x][y]^d, r[x][y])
			}
		}
		for x := range 5 {
			for y := range 5 {
				a[x][y] = b[x][y] ^ (^b[(x+1)%5][y] & b[(x+2)%5][y])
			}
		}
		a[0][0] ^= ruleConstant(i)
	}
	var out [25]uint64
	for i := range out {
		out[i] = a[i%5][i/5]
	}
	return out
}

// ruleSum is the hash, with permute and the padding's first byte as given: 01 is Keccak-256, 06 is SHA3-256.
func ruleSum(permute func([25]uint64) [25]uint64, first byte, text string) [32]byte {
	padded := append([]byte(text), first)
	for len(padded)%136 != 0 {
		padded = append(padded, 0)
	}
	padded[len(padded)-1] |= 0x80
	var state [25]uint64
	for len(padded) > 0 {
		for i, v := range padded[:136] {
			state[i/8] ^= uint64(v) << (i % 8 * 8)
		}
		state = permute(state)
		padded = padded[136:]
	}
	var sum [32]byte
	for i := range sum {
		sum[i] = byte(state[i/8] >> (i % 8 * 8))
	}
	return sum
}
