package history

import (
	"fmt"
	"math"
	"slices"
	"testing"

	"loess/api"
	"loess/bitset"
	"loess/disk"
	"loess/kv"
	"loess/plain"
)

const last = api.MaxBlock

// P18.1: the rows of blocks that changed accounts and slots, and of one that changed nothing.
func TestIndexRows(t *testing.T) {
	x := fresh(t)
	follow(t, x, blockOf(1, wrote(1, 1, 1, 5), wrote(2, 1)))
	first := []string{
		rowOf(api.AccountIndex, addr(1), last, "000000 00 01"),
		rowOf(api.AccountIndex, addr(2), last, "000000 00 01"),
		rowOf(api.SlotIndex, slot(1, 1, 1), last, "000000 00 01"),
	}
	indexed(t, "block 1", x, first...)
	follow(t, x, blockOf(2))
	indexed(t, "block 2, of nothing", x, first...)
	follow(t, x, blockOf(300, gone(1), wrote(3, 1, 1, 5, 2, 6)))
	third := []string{
		rowOf(api.AccountIndex, addr(1), last, "000000 00 01 000001 00 2c"),
		rowOf(api.AccountIndex, addr(2), last, "000000 00 01"),
		rowOf(api.AccountIndex, addr(3), last, "000001 00 2c"),
		rowOf(api.SlotIndex, slot(1, 1, 1), last, "000000 00 01 000001 00 2c"),
		rowOf(api.SlotIndex, slot(3, 300, 1), last, "000001 00 2c"),
		rowOf(api.SlotIndex, slot(3, 300, 2), last, "000001 00 2c"),
	}
	indexed(t, "block 300", x, third...)
	want(t, "Unindex(300)", Unindex(x, 300), api.OK)
	indexed(t, "block 300 taken out", x, first...)
	want(t, "Unindex(2)", Unindex(x, 2), api.OK)
	indexed(t, "block 2 taken out", x, first...)
	want(t, "Index(300)", Index(x, 300), api.OK)
	indexed(t, "block 300 again", x, third...)
}

// P18.1: what no block changed is in no set; the other tables stay as they are.
func TestIndexAlone(t *testing.T) {
	x := fresh(t)
	want(t, "Apply", plain.Apply(x, blockOf(7, wrote(1, 1, 1, 5))), api.OK)
	before := every(x)
	for _, n := range []int{0, 1, 6, 8, -1, -7, 7 << 32 >> 1, last, last + 1, math.MinInt, math.MaxInt} {
		want(t, fmt.Sprint("Index of ", n, ", which was never applied"), Index(x, n), api.OK)
		want(t, fmt.Sprint("Unindex of ", n, ", which was never applied"), Unindex(x, n), api.OK)
	}
	want(t, "Unindex of 7, which was never indexed", Unindex(x, 7), api.OK)
	want(t, "the tables", every(x), before)
	want(t, "Index of 7", Index(x, 7), api.OK)
	want(t, "the tables, but for the indexes", pairs(x, 1, api.Accounts, api.Slots, api.AccountChanges, api.SlotChanges, 8, 9), before)
	want(t, "Unindex of 7", Unindex(x, 7), api.OK)
	want(t, "the tables behind both", every(x), before)
}

// P18.1: Index of a number that one of the sets has, or that is below one of them; nothing has changed, of the other keys neither.
func TestIndexNotAbove(t *testing.T) {
	x := fresh(t)
	follow(t, x, blockOf(5, wrote(2, 1, 1, 1)), blockOf(9, wrote(2, 2)))
	for _, b := range []api.Block{blockOf(7, wrote(1, 7), wrote(2, 7), wrote(3, 7)), blockOf(12, wrote(1, 12), wrote(2, 12, 1, 12), wrote(3, 12))} {
		want(t, "Apply", plain.Apply(x, b), api.OK)
	}
	before := every(x)
	for _, n := range []int{5, 9, 7} {
		want(t, fmt.Sprint("Index of ", n), Index(x, n), api.ErrArg)
		want(t, fmt.Sprint("the tables behind Index of ", n), every(x), before)
	}
	want(t, "Index of 12", Index(x, 12), api.OK)
	want(t, "Blocks", list(Blocks(x, api.AccountIndex, addr(2))), "[5 9 12]")
	want(t, "Blocks of a slot", list(Blocks(x, api.SlotIndex, slot(2, 5, 1))), "[5 12]")
	want(t, "Blocks of one that is new", list(Blocks(x, api.AccountIndex, addr(3))), "[12]")
	want(t, "Index of 12 again", Index(x, 12), api.ErrArg)
}

// P18.1: a slot's set alone has the number: ErrArg, too.
func TestIndexNotAboveOfSlot(t *testing.T) {
	x := fresh(t)
	noted(t, x, api.SlotChanges, slot(1, 1, 1), 5, 6)
	put(t, x, api.AccountChanges, four(6)+addr(1), "")
	before := every(x)
	want(t, "Index of 6", Index(x, 6), api.ErrArg)
	want(t, "the tables", every(x), before)
}

// P18.1: numbers that may be in no set, where there are changes by their four bytes: what these change is asked modulo 2^32, the number itself isn't.
func TestIndexOfNoNumber(t *testing.T) {
	x := fresh(t)
	for _, n := range []int{1<<32 - 1, 1 << 31, 5} {
		put(t, x, api.AccountChanges, four(n)+addr(1), "")
	}
	before := every(x)
	for _, n := range []int{-1, 1<<32 - 1, 1 << 31, -1 << 31, 1<<32 + 5, 5 - 1<<32} {
		want(t, fmt.Sprint("Index of ", n), Index(x, n), api.ErrArg)
	}
	want(t, "the tables", every(x), before)
	want(t, "Index of 5", Index(x, 5), api.OK)
	want(t, "Unindex of 2^32 + 5", Unindex(x, 1<<32+5), api.OK)
	want(t, "Blocks", list(Blocks(x, api.AccountIndex, addr(1))), "[5]")
	want(t, "Unindex of -1", Unindex(x, -1), api.OK)
	want(t, "the tables in the end", every(x), before)
}

// P18.1: 0 and MaxBlock are numbers as others are.
func TestIndexOfEdges(t *testing.T) {
	x := fresh(t)
	noted(t, x, api.AccountChanges, addr(1), 0, last)
	indexed(t, "0 and MaxBlock", x, rowOf(api.AccountIndex, addr(1), last, "000000 00 00 7fffff 00 ff"))
	want(t, "Index of MaxBlock again", Index(x, last), api.ErrArg)
	want(t, "Unindex of MaxBlock", Unindex(x, last), api.OK)
	indexed(t, "0", x, rowOf(api.AccountIndex, addr(1), last, "000000 00 00"))
	want(t, "Unindex of 0", Unindex(x, 0), api.OK)
	indexed(t, "nothing", x)
}

// P18.1: a slot whose account was born in block 0 is a slot still.
func TestIndexOfBirthZero(t *testing.T) {
	x := fresh(t)
	noted(t, x, api.SlotChanges, slot(1, 0, 1), 7)
	indexed(t, "block 7", x, rowOf(api.SlotIndex, slot(1, 0, 1), last, "000000 00 07"))
	want(t, "Unindex", Unindex(x, 7), api.OK)
	indexed(t, "taken out", x)
}

// P18.1: of many chunks those alone are written that become others.
func TestIndexWritesLittle(t *testing.T) {
	d := disk.New(4000)
	s := opened(t, d)
	x := begun(t, s)
	noted(t, x, api.AccountChanges, addr(1), count(1, 3000, 1)...)
	want(t, "Commit", x.Commit(), api.OK)
	for _, call := range []func(x *kv.Tx) api.Errno{
		func(x *kv.Tx) api.Errno { return x.Put(api.AccountChanges, four(3001)+addr(1), "") },
		func(x *kv.Tx) api.Errno { return Index(x, 3001) },
		func(x *kv.Tx) api.Errno { return Unindex(x, 3001) },
	} {
		x := begun(t, s)
		want(t, "the call", call(x), api.OK)
		took := ops(d, func() { want(t, "Commit", x.Commit(), api.OK) })
		want(t, fmt.Sprint("the commit takes few operations: ", took), took < 8, true)
	}
}

// P18.1: where sets of several keys say ErrArg and ErrStore, ErrArg is told, in whatever order they stand.
func TestIndexOrderOfErrors(t *testing.T) {
	for _, wrong := range []int{1, 2, 3} {
		x := fresh(t)
		noted(t, x, api.AccountChanges, addr(wrong%3+1), 9)
		put(t, x, api.AccountIndex, addr(wrong)+four(last), "x")
		for a := 1; a <= 3; a++ {
			put(t, x, api.AccountChanges, four(9)+addr(a), "")
		}
		before := every(x)
		want(t, fmt.Sprint("Index, the chunks of ", wrong, " are no set's"), Index(x, 9), api.ErrArg)
		want(t, fmt.Sprint("Unindex, the chunks of ", wrong, " are no set's"), Unindex(x, 9), api.ErrStore)
		want(t, "the tables", every(x), before)
	}
}

// P18.1: a row of the changes that names no slot: ErrStore, as of plain.
func TestIndexOfNoChange(t *testing.T) {
	x := fresh(t)
	put(t, x, api.AccountChanges, four(9)+addr(1), "")
	put(t, x, api.SlotChanges, four(9)+addr(1), "")
	before := every(x)
	want(t, "Index", Index(x, 9), api.ErrStore)
	want(t, "Unindex", Unindex(x, 9), api.ErrStore)
	want(t, "the tables", every(x), before)
}

// chunked is the rows of a key whose numbers are count(first, many, step), up to 300 of them, below 256 each: a chunk's bytes are one container's.
func chunked(index byte, k string, numbers []int) []string {
	var l []string
	for part := range slices.Chunk(numbers, 64) {
		upper := slices.Max(part)
		if upper == slices.Max(numbers) {
			upper = last
		}
		l = append(l, pair(index, k+four(upper), bitset.New(part...).Bytes()))
	}
	return l
}

// P18.1: the rows while a key's set grows into more chunks, and while it gets fewer again, number by number.
func TestIndexChunks(t *testing.T) {
	x := fresh(t)
	both := func(many int) []string {
		if many == 0 {
			return nil
		}
		l := count(3, many, 2)
		return append(chunked(api.AccountIndex, addr(1), l), chunked(api.SlotIndex, slot(1, 3, 1), l)...)
	}
	for i, n := range count(3, 200, 2) {
		follow(t, x, blockOf(n, wrote(1, n, 1, n)))
		indexed(t, fmt.Sprint("Index of ", n), x, both(i+1)...)
	}
	for i := 199; i >= 0; i-- {
		back(t, x, 3+2*i)
		indexed(t, fmt.Sprint("Unindex of ", 3+2*i), x, both(i)...)
	}
	want(t, "the tables", every(x), "")
}

// P18.1: the rows of two chunks, byte by byte.
func TestIndexTwoChunks(t *testing.T) {
	x := fresh(t)
	for n := 1; n <= 65; n++ {
		follow(t, x, blockOf(n, wrote(1, n)))
	}
	bits := "000000 3f fe ff ff ff ff ff ff ff 01" + fmt.Sprintf("%046x", 0)
	indexed(t, "1 to 65", x, rowOf(api.AccountIndex, addr(1), 64, bits), rowOf(api.AccountIndex, addr(1), last, "000000 00 41"))
	back(t, x, 65)
	indexed(t, "1 to 64", x, rowOf(api.AccountIndex, addr(1), last, bits))
}

// P18.1: Unindex from the last block on, one by one and below others at once: all from the number on go, of those that its block changed.
func TestUnindex(t *testing.T) {
	for _, c := range []struct {
		from        int
		left, other int // how many numbers of the account, and of another one, which block 100 changed, are left
	}{{200, 199, 1}, {199, 198, 1}, {193, 192, 1}, {192, 191, 1}, {150, 149, 1}, {129, 128, 1}, {128, 127, 1}, {101, 100, 1}, {100, 99, 0}, {65, 64, 1}, {64, 63, 1}, {2, 1, 1}, {1, 0, 1}} {
		x := fresh(t)
		for n := 1; n <= 200; n++ {
			b := blockOf(n, wrote(1, n))
			if n == 100 {
				b.Writes = append(b.Writes, wrote(2, n))
			}
			follow(t, x, b)
		}
		want(t, fmt.Sprint("Unindex of ", c.from), Unindex(x, c.from), api.OK)
		var l []string
		if c.left > 0 {
			l = chunked(api.AccountIndex, addr(1), count(1, c.left, 1))
		}
		if c.other > 0 {
			l = append(l, rowOf(api.AccountIndex, addr(2), last, "000000 00 64"))
		}
		indexed(t, fmt.Sprint("Unindex of ", c.from), x, l...)
		want(t, "Unindex once more", Unindex(x, c.from), api.OK)
		indexed(t, fmt.Sprint("Unindex of ", c.from, " once more"), x, l...)
		want(t, "Index of what was taken out", Index(x, c.from), api.OK)
		want(t, "Blocks", list(Blocks(x, api.AccountIndex, addr(1))), fmt.Sprint(count(1, c.left+1, 1)))
	}
}

// P18.1: Unindex of a block whose key has one number alone; the key has no pair any more.
func TestUnindexOfOne(t *testing.T) {
	x := fresh(t)
	follow(t, x, blockOf(1, wrote(1, 1)), blockOf(2, wrote(2, 1, 1, 1)))
	want(t, "Unindex", Unindex(x, 2), api.OK)
	indexed(t, "the first one stays", x, rowOf(api.AccountIndex, addr(1), last, "000000 00 01"))
	want(t, "Unindex", Unindex(x, 1), api.OK)
	indexed(t, "none stays", x)
}

// P18.1: a block that changed keys which were not in its set: Unindex of it takes out those above it alone.
func TestUnindexOfOneNeverIndexed(t *testing.T) {
	x := fresh(t)
	noted(t, x, api.AccountChanges, addr(1), 3, 9)
	put(t, x, api.AccountChanges, four(5)+addr(1), "")
	put(t, x, api.AccountChanges, four(20)+addr(1), "")
	want(t, "Unindex of 20", Unindex(x, 20), api.OK)
	want(t, "Blocks", list(Blocks(x, api.AccountIndex, addr(1))), "[3 9]")
	want(t, "Unindex of 5", Unindex(x, 5), api.OK)
	want(t, "Blocks", list(Blocks(x, api.AccountIndex, addr(1))), "[3]")
}

// P18.4: what was indexed last and is taken out again leaves no trace, whatever it changed.
func TestIndexAndBack(t *testing.T) {
	x := fresh(t)
	for n := 1; n <= 140; n++ {
		b := blockOf(n, wrote(1, n, 1, n, 2, n*(n%2)), wrote(2, 1, n, 1))
		switch {
		case n%50 == 0:
			b = blockOf(n, gone(1), gone(2))
		case n%31 == 0:
			b = blockOf(n, anew(1, n, 3, n))
		case n%17 == 0:
			b = blockOf(n)
		}
		want(t, "Apply", plain.Apply(x, b), api.OK)
		before := every(x)
		want(t, "Index", Index(x, n), api.OK)
		want(t, "Unindex", Unindex(x, n), api.OK)
		want(t, fmt.Sprint("the tables, block ", n, " indexed and taken out"), every(x), before)
		want(t, "Index", Index(x, n), api.OK)
	}
	for n := 140; n > 0; n-- {
		back(t, x, n)
	}
	want(t, "the tables in the end", every(x), "")
}
