package bitset

import (
	"math/big"
	"slices"

	"loess/api"
)

// The rules of the chapter once more, in other words: a set is a rising list of numbers, and its bits are a number of math/big.

// ruleNew is the rising list of those of l that may be members.
func ruleNew(l ...int) []int {
	var members []int
	for _, n := range l {
		if 0 <= n && n <= api.MaxBlock {
			members = append(members, n)
		}
	}
	slices.Sort(members)
	return slices.Compact(members)
}

// ruleCut is how many of the members are below from.
func ruleCut(members []int, from int) int {
	at, _ := slices.BinarySearch(members, from)
	return at
}

func ruleLeast(members []int, from int) (int, bool) {
	rest := members[ruleCut(members, from):]
	if len(rest) == 0 {
		return 0, false
	}
	return rest[0], true
}

func ruleGreatest(members []int) (int, bool) {
	if len(members) == 0 {
		return 0, false
	}
	return members[len(members)-1], true
}

func ruleBytes(members []int) string {
	var b []byte
	for len(members) > 0 {
		upper := members[0] / 256
		n := ruleCut(members, (upper+1)*256)
		b = append(b, big.NewInt(int64(upper)).FillBytes(make([]byte, 3))...)
		b = append(b, byte(n-1))
		b = append(b, ruleLows(members[:n])...)
		members = members[n:]
	}
	return string(b)
}

// ruleLows writes the lower parts of one container: a sum of powers of two, the greatest last, if a list would be longer than that.
func ruleLows(members []int) []byte {
	var list []byte
	sum := new(big.Int)
	for _, n := range members {
		list = append(list, byte(n))
		sum.SetBit(sum, n%256, 1)
	}
	if len(list) <= 32 {
		return list
	}
	field := sum.FillBytes(make([]byte, 32))
	slices.Reverse(field)
	return field
}

// ruleRead is the members of the set whose bytes b is. It reads whatever comes, in any order, and holds what it has read against b: what is no set's bytes has others.
func ruleRead(b string) ([]int, bool) {
	var l []int
	for rest := b; len(rest) >= 4; {
		first := int(rest[0])<<24 | int(rest[1])<<16 | int(rest[2])<<8
		n, body := int(rest[3])+1, rest[4:]
		if n > 32 {
			body = body[:min(32, len(body))]
			for i := range 8 * len(body) {
				if body[i/8]&(1<<(i%8)) != 0 {
					l = append(l, first+i)
				}
			}
		} else {
			body = body[:min(n, len(body))]
			for i := range len(body) {
				l = append(l, first+int(body[i]))
			}
		}
		rest = rest[4+len(body):]
	}
	members := ruleNew(l...)
	return members, ruleBytes(members) == b
}
