package mask

import (
	"math/rand"

	"loess/api"
)

// kept is what a branch says of one nibble.
type kept struct {
	state, tree, hashed bool
	hash                [32]byte
}

// ruleHas is whether a mask has a nibble, by the bit's value.
func ruleHas(m uint16, n int) bool {
	value := 1
	for range n {
		value *= 2
	}
	return int(m)/value%2 == 1
}

// ruleMask is the mask of the nibbles of which has is true.
func ruleMask(has func(n int) bool) uint16 {
	m, value := 0, 1
	for n := range 16 {
		if has(n) {
			m += value
		}
		value *= 2
	}
	return uint16(m)
}

func ruleCount(m uint16) int {
	count := 0
	for n := range 16 {
		if ruleHas(m, n) {
			count++
		}
	}
	return count
}

// ruleCheck is the chapter's P15.2.
func ruleCheck(b api.Branch) api.Errno {
	for n := range 16 {
		if (ruleHas(b.Tree, n) || ruleHas(b.Hash, n)) && !ruleHas(b.State, n) {
			return api.ErrArg
		}
	}
	if ruleCount(b.State) < 2 || ruleCount(b.Hash) != len(b.Hashes) {
		return api.ErrArg
	}
	return api.OK
}

// ruleRecord is the chapter's P15.3.
func ruleRecord(b api.Branch) string {
	var s string
	for _, m := range []uint16{b.State, b.Tree, b.Hash} {
		s += string([]byte{byte(m / 256), byte(m % 256)})
	}
	for _, h := range b.Hashes {
		s += string(h[:])
	}
	return s
}

// ruleRead tries what may be a branch's bytes: masks, and all else as hashes.
func ruleRead(s string) (api.Branch, api.Errno) {
	if len(s) < 6 {
		return api.Branch{}, api.ErrForm
	}
	b := api.Branch{State: 256*uint16(s[0]) + uint16(s[1]), Tree: 256*uint16(s[2]) + uint16(s[3]), Hash: 256*uint16(s[4]) + uint16(s[5])}
	for i := 6; i+32 <= len(s); i += 32 {
		b.Hashes = append(b.Hashes, [32]byte([]byte(s[i:i+32])))
	}
	if ruleCheck(b) != api.OK || ruleRecord(b) != s {
		return api.Branch{}, api.ErrForm
	}
	return b, api.OK
}

// apart is what a branch says of each nibble, of one that has as many Hashes as its Hash says.
func apart(b api.Branch) [16]kept {
	var l [16]kept
	left := b.Hashes
	for n := range l {
		l[n] = kept{state: ruleHas(b.State, n), tree: ruleHas(b.Tree, n), hashed: ruleHas(b.Hash, n)}
		if l[n].hashed {
			l[n].hash, left = left[0], left[1:]
		}
	}
	return l
}

// together is the branch that says that of each nibble.
func together(l [16]kept) api.Branch {
	b := api.Branch{
		State: ruleMask(func(n int) bool { return l[n].state }),
		Tree:  ruleMask(func(n int) bool { return l[n].tree }),
		Hash:  ruleMask(func(n int) bool { return l[n].hashed }),
	}
	for _, k := range l {
		if k.hashed {
			b.Hashes = append(b.Hashes, k.hash)
		}
	}
	return b
}

// ruleKept is what is kept of a nibble that has a ref.
func ruleKept(tree bool, ref string) kept {
	if ref == "" {
		return kept{}
	}
	k := kept{state: true, tree: tree}
	if len(ref) == 33 && ref[0] == 0xa0 {
		k.hashed, k.hash = true, [32]byte([]byte(ref)[1:])
	}
	return k
}

// ruleWith is the chapter's P15.4, nibble by nibble.
func ruleWith(b api.Branch, n int, tree bool, ref string) api.Branch {
	l := apart(b)
	if 0 <= n && n <= 15 {
		l[n] = ruleKept(tree, ref)
	}
	return together(l)
}

// someBranch is one by chance that may be, or has fewer than two nibbles.
func someBranch(r *rand.Rand) api.Branch {
	var l [16]kept
	for n := range l {
		if r.Intn(3) > 0 {
			l[n] = kept{state: true, tree: r.Intn(2) == 0, hashed: r.Intn(2) == 0}
		}
		if l[n].hashed {
			r.Read(l[n].hash[:])
		}
	}
	return together(l)
}
