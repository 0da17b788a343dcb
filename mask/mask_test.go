package mask

import (
	"fmt"
	"slices"
	"testing"

	"loess/api"
)

// The chapter's examples.
func TestExamples(t *testing.T) {
	want(t, "Of(1, 15)", Of(1, 15), 0x8002)
	want(t, "Count", Count(Of(1, 15)), 2)
	s, e := Record(api.Branch{State: 0x8002})
	want(t, "Record", recordText(s, e), "800200000000 0")
	want(t, "Check", Check(api.Branch{State: 0x0001}), api.ErrArg)
}

// P15.1: every mask, and each nibble of it.
func TestEachMask(t *testing.T) {
	for value := range 1 << 16 {
		m, l := uint16(value), []int(nil)
		for n := range 16 {
			has := ruleHas(m, n)
			if Has(m, n) != has {
				t.Fatalf("Has(%04x, %d): %v", m, n, !has)
			}
			if has {
				l = append(l, n)
			}
		}
		if got := Count(m); got != len(l) {
			t.Fatalf("Count(%04x): %d, want %d", m, got, len(l))
		}
		if got := Of(l...); got != m {
			t.Fatalf("Of(%v): %04x, want %04x", l, got, m)
		}
		slices.Reverse(l)
		if got := Of(append(l, l...)...); got != m {
			t.Fatalf("Of(%v) twice: %04x, want %04x", l, got, m)
		}
	}
}

// P15.1: masks told one by one, without the rules.
func TestMasksKnown(t *testing.T) {
	for _, c := range []struct {
		l     []int
		mask  uint16
		count int
	}{
		{nil, 0, 0}, {[]int{}, 0, 0},
		{[]int{0}, 0x0001, 1}, {[]int{1}, 0x0002, 1}, {[]int{7}, 0x0080, 1}, {[]int{8}, 0x0100, 1}, {[]int{14}, 0x4000, 1}, {[]int{15}, 0x8000, 1},
		{[]int{5, 5}, 0x0020, 1}, {[]int{15, 0, 15, 0, 15}, 0x8001, 2}, {[]int{3, 2, 1, 0}, 0x000f, 4},
		{[]int{0, 1, 2, 3, 4, 5, 6, 7, 8, 9, 10, 11, 12, 13, 14, 15}, 0xffff, 16},
		{[]int{-1, 1, 16}, 0x0002, 1}, {[]int{16, 17, 31, -16}, 0, 0},
	} {
		m := Of(c.l...)
		want(t, fmt.Sprint("Of ", c.l), m, c.mask)
		want(t, fmt.Sprint("Count of ", c.l), Count(m), c.count)
		for n := range 16 {
			want(t, fmt.Sprintf("Has(%04x, %d)", m, n), Has(m, n), slices.Contains(c.l, n))
		}
	}
}

// P15.1: numbers that are no nibbles are in no mask, and count for nothing.
func TestNoNibbles(t *testing.T) {
	for _, n := range noNibbles() {
		for _, m := range []uint16{0, 1, 2, 0x5555, 0x7fff, 0x8000, 0xfffe, 0xffff} {
			want(t, fmt.Sprintf("Has(%04x, %d)", m, n), Has(m, n), false)
		}
		want(t, fmt.Sprint("Of ", n), Of(n), 0)
		want(t, fmt.Sprint("Of ", n, " first"), Of(n, 0, 15), 0x8001)
		want(t, fmt.Sprint("Of ", n, " between"), Of(3, n, 5), 0x0028)
		want(t, fmt.Sprint("Of ", n, " last"), Of(1, n, n), 0x0002)
	}
	want(t, "Of all of these", Of(noNibbles()...), 0)
}

// R3: Of leaves its list.
func TestOfLeavesItsList(t *testing.T) {
	l := []int{9, -1, 9, 3, 16, 0}
	want(t, "Of", Of(l...), 0x0209)
	want(t, "its list", fmt.Sprint(l), "[9 -1 9 3 16 0]")
}

// P15.2: each way in which a branch may not be, by itself.
func TestCheckKnown(t *testing.T) {
	for _, c := range []struct {
		what string
		b    api.Branch
		e    api.Errno
	}{
		{"no nibble", api.Branch{}, api.ErrArg},
		{"one", api.Branch{State: 0x0001}, api.ErrArg},
		{"another one", api.Branch{State: 0x8000}, api.ErrArg},
		{"one, that has all", api.Branch{State: 0x0010, Tree: 0x0010, Hash: 0x0010, Hashes: sums(1)}, api.ErrArg},
		{"two", api.Branch{State: 0x0003}, api.OK},
		{"two, at the ends", api.Branch{State: 0x8001}, api.OK},
		{"all", api.Branch{State: 0xffff}, api.OK},
		{"two, with Hashes that are empty", api.Branch{State: 0x0003, Hashes: [][32]byte{}}, api.OK},
		{"Tree beside State", api.Branch{State: 0x0003, Tree: 0x0004}, api.ErrArg},
		{"Tree beside State and within it", api.Branch{State: 0x0003, Tree: 0x8003}, api.ErrArg},
		{"Tree within State", api.Branch{State: 0x8003, Tree: 0x8001}, api.OK},
		{"Hash beside State", api.Branch{State: 0x0003, Hash: 0x0004, Hashes: sums(1)}, api.ErrArg},
		{"Hash beside State and within it", api.Branch{State: 0x0003, Hash: 0x8001, Hashes: sums(1, 2)}, api.ErrArg},
		{"Hash within State", api.Branch{State: 0x8003, Hash: 0x8001, Hashes: sums(1, 2)}, api.OK},
		{"Hash within State, not within Tree", api.Branch{State: 0x8003, Tree: 0x0001, Hash: 0x0002, Hashes: sums(1)}, api.OK},
		{"Hash within Tree, beside State", api.Branch{State: 0x0003, Tree: 0x0004, Hash: 0x0004, Hashes: sums(1)}, api.ErrArg},
		{"no Hashes for one", api.Branch{State: 0x0003, Hash: 0x0001}, api.ErrArg},
		{"one too few", api.Branch{State: 0x0007, Hash: 0x0007, Hashes: sums(1, 2)}, api.ErrArg},
		{"just enough", api.Branch{State: 0x0007, Hash: 0x0007, Hashes: sums(1, 2, 3)}, api.OK},
		{"one too many", api.Branch{State: 0x0007, Hash: 0x0007, Hashes: sums(1, 2, 3, 4)}, api.ErrArg},
		{"one for none", api.Branch{State: 0x0003, Hashes: [][32]byte{{}}}, api.ErrArg},
		{"17 for 16", api.Branch{State: 0xffff, Hash: 0xffff, Hashes: numbered(17)}, api.ErrArg},
		{"16", api.Branch{State: 0xffff, Hash: 0xffff, Hashes: numbered(16)}, api.OK},
		{"15 for 16", api.Branch{State: 0xffff, Hash: 0xffff, Hashes: numbered(15)}, api.ErrArg},
		{"a hash of zeros", api.Branch{State: 0x0003, Hash: 0x0001, Hashes: [][32]byte{{}}}, api.OK},
		{"very many", api.Branch{State: 0xffff, Hash: 0xffff, Hashes: make([][32]byte, 1<<16)}, api.ErrArg},
		{"65552 for 16", api.Branch{State: 0xffff, Hash: 0xffff, Hashes: make([][32]byte, 1<<16+16)}, api.ErrArg},
	} {
		want(t, "Check of "+c.what, Check(c.b), c.e)
	}
	for _, b := range branches() {
		want(t, "Check of "+text(b), Check(b), api.OK)
	}
}

// P15.2: all masks of four nibbles, with each number of Hashes.
func TestCheckOfAll(t *testing.T) {
	var masks []uint16
	for some := range 16 {
		masks = append(masks, ruleMask(func(n int) bool { return n%5 == 0 && ruleHas(uint16(some), n/5) }))
	}
	for _, state := range masks {
		for _, tree := range masks {
			for _, hash := range masks {
				for count := range 6 {
					b := api.Branch{State: state, Tree: tree, Hash: hash, Hashes: numbered(count)}
					want(t, "Check of "+text(b), Check(b), ruleCheck(b))
				}
			}
		}
	}
}

// P15.2: State by itself, each; and each nibble of Tree and of Hash beside all others.
func TestCheckOfEachState(t *testing.T) {
	for value := range 1 << 16 {
		b := api.Branch{State: uint16(value)}
		if e := Check(b); e != ruleCheck(b) {
			t.Fatalf("Check of %s: error %d", text(b), e)
		}
	}
	for n := range 16 {
		one := uint16(1) << n
		want(t, "Tree alone", Check(api.Branch{State: ^one, Tree: one}), api.ErrArg)
		want(t, "Tree too", Check(api.Branch{State: ^one, Tree: 0xffff}), api.ErrArg)
		want(t, "Hash alone", Check(api.Branch{State: ^one, Hash: one, Hashes: sums(1)}), api.ErrArg)
		want(t, "Hash too", Check(api.Branch{State: ^one, Hash: 0xffff, Hashes: numbered(16)}), api.ErrArg)
		want(t, "all but one", Check(api.Branch{State: ^one, Tree: ^one, Hash: ^one, Hashes: numbered(15)}), api.OK)
	}
}
