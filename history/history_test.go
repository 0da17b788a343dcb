package history

import (
	"fmt"
	"math"
	"strings"
	"testing"

	"loess/api"
	"loess/bitset"
	"loess/disk"
	"loess/kv"
)

// The chapter's examples.
func TestExamples(t *testing.T) {
	x := fresh(t)
	follow(t, x, blockOf(1, wrote(1, 1)), blockOf(2), blockOf(3, wrote(1, 3)))
	told(t, "AccountAt", 0, func(n int) string { return accountAt(x, 1, n) }, "none", "1 born 1", "1 born 1", "3 born 1")
	want(t, "Blocks", list(Blocks(x, api.AccountIndex, addr(1))), "[1 3]")
	want(t, "Unindex(3)", Unindex(x, 3), api.OK)
	want(t, "Blocks, 3 taken out", list(Blocks(x, api.AccountIndex, addr(1))), "[1]")
}

// P18.2: of a table and a key without a row.
func TestFoundOfNone(t *testing.T) {
	x := fresh(t)
	for _, filled := range []bool{false, true} {
		if filled {
			follow(t, x, blockOf(1, wrote(2, 1, 2, 1)), blockOf(2, wrote(2, 2, 2, 2)))
		}
		for _, table := range []byte{api.AccountIndex, api.SlotIndex, 0, 99, 255} {
			for _, k := range []string{"", "a", addr(1), addr(3), slot(2, 1, 1), slot(2, 2, 2), slot(2, 1, 3), strings.Repeat("a", 123), strings.Repeat("a", 124), strings.Repeat("\xff", 127), strings.Repeat("\x00", 300)} {
				what := fmt.Sprintf("table %d, key %x, filled %v", table, k, filled)
				want(t, "Blocks of "+what, list(Blocks(x, table, k)), "[]")
				for _, from := range []int{math.MinInt, -1, 0, 1, 2, api.MaxBlock, math.MaxInt} {
					want(t, fmt.Sprint("Next of ", what, " from ", from), found(Next(x, table, k, from)), "none")
				}
			}
		}
	}
	want(t, "Blocks of an account in the other table", list(Blocks(x, api.SlotIndex, addr(2))), "[]")
	want(t, "Blocks of a slot in the other table", list(Blocks(x, api.AccountIndex, slot(2, 1, 2))), "[]")
	want(t, "Blocks of a slot", list(Blocks(x, api.SlotIndex, slot(2, 1, 2))), "[1 2]")
}

// P18.2: of one chunk: from below the first, at one, between two, at the last, behind it, and where a number of four bytes would begin anew.
func TestFoundInOneChunk(t *testing.T) {
	x := fresh(t)
	noted(t, x, api.AccountChanges, addr(1), 5, 7, 300)
	want(t, "Blocks", list(Blocks(x, api.AccountIndex, addr(1))), "[5 7 300]")
	for _, c := range []struct {
		from int
		want string
	}{
		{math.MinInt, "5"}, {-1 << 32, "5"}, {-1<<32 + 6, "5"}, {-1 << 31, "5"}, {-1, "5"}, {0, "5"}, {4, "5"}, {5, "5"}, {6, "7"}, {7, "7"}, {8, "300"}, {299, "300"}, {300, "300"},
		{301, "none"}, {1000, "none"}, {api.MaxBlock - 1, "none"}, {api.MaxBlock, "none"}, {api.MaxBlock + 1, "none"}, {1<<32 - 1, "none"}, {1 << 32, "none"}, {1<<32 + 5, "none"}, {1<<33 + 7, "none"}, {math.MaxInt, "none"},
	} {
		want(t, fmt.Sprint("Next from ", c.from), found(Next(x, api.AccountIndex, addr(1), c.from)), c.want)
	}
}

// P18.2: of several chunks, each number and what is between two.
func TestFoundInSeveralChunks(t *testing.T) {
	for _, many := range []int{63, 64, 65, 127, 128, 129, 200} {
		x := fresh(t)
		l := count(10, many, 10)
		noted(t, x, api.SlotChanges, slot(1, 1, 1), l...)
		want(t, "Blocks", list(Blocks(x, api.SlotIndex, slot(1, 1, 1))), fmt.Sprint(l))
		for i, n := range l {
			for from := n - 9; from <= n; from++ {
				want(t, fmt.Sprint("Next from ", from, " of ", many), found(Next(x, api.SlotIndex, slot(1, 1, 1), from)), fmt.Sprint(l[i]))
			}
		}
		want(t, "Next from behind them", found(Next(x, api.SlotIndex, slot(1, 1, 1), l[many-1]+1)), "none")
		want(t, "Next from below 0", found(Next(x, api.SlotIndex, slot(1, 1, 1), -5)), "10")
	}
}

// P18.2: MaxBlock is a number as others are.
func TestFoundOfMaxBlock(t *testing.T) {
	x := fresh(t)
	noted(t, x, api.AccountChanges, addr(1), 0, 5, api.MaxBlock)
	want(t, "Blocks", list(Blocks(x, api.AccountIndex, addr(1))), "[0 5 2147483647]")
	for from, told := range map[int]string{-1: "0", 0: "0", 1: "5", 6: "2147483647", api.MaxBlock: "2147483647", api.MaxBlock + 1: "none"} {
		want(t, fmt.Sprint("Next from ", from), found(Next(x, api.AccountIndex, addr(1), from)), told)
	}
}

// alike are keys that begin with one another; the bytes behind them lie below, between and above those of the others' numbers.
func alike() []string {
	l := []string{"", "k", addr(1), addr(1)[:19], addr(1) + "x", slot(1, 1, 1)}
	for _, more := range []string{"\x00", "\x00\x00", "\x00\x00\x00", "\x00\x00\x00\x00", "\x00\x00\x00\x05", "\x00\x00\x00\x05\x00", "\x00\x00\x00\x40", "\x00\x00\x00\x40\xff", "\x00\x00\x01", "\x7f", "\x7f\xff\xff", "\x7f\xff\xff\xff", "\x7f\xff\xff\xff\x00\x00\x00\x00", "\x80", "\xff\xff\xff\xff", "\xff\xff\xff\xff\xff"} {
		l = append(l, "k"+more, addr(1)+more, more)
	}
	return l
}

// P18.2: keys that others begin with, and that begin with others, have nothing to do with these.
func TestFoundOfKeysAlike(t *testing.T) {
	x := fresh(t)
	keys := alike()
	sets := map[string][]int{}
	for i, k := range keys {
		l := count(3+i, 1+i*31%140, 1+i%3)
		if i%5 == 4 {
			continue // of some there is none
		}
		sets[k] = l
	}
	for n := range 1000 {
		for _, k := range keys {
			if has(sets[k], n) {
				put(t, x, api.AccountChanges, four(n)+k, "")
			}
		}
		want(t, "Index", Index(x, n), api.OK)
	}
	for _, k := range keys {
		want(t, fmt.Sprintf("Blocks of %x", k), list(Blocks(x, api.AccountIndex, k)), fmt.Sprint(sets[k]))
		for _, from := range []int{-1, 0, 3, 5, 6, 50, 64, 65, 70, 90, 129, 200, 254, 255, 256, 300, 400, api.MaxBlock} {
			want(t, fmt.Sprintf("Next of %x from %d", k, from), found(Next(x, api.AccountIndex, k, from)), least(sets[k], from))
		}
	}
	for n := range 1000 {
		want(t, "Unindex", Unindex(x, n), api.OK)
	}
	indexed(t, "all taken out", x)
}

func has(l []int, n int) bool {
	for _, m := range l {
		if m == n {
			return true
		}
	}
	return false
}

// least is the least of a rising list that is not below from, as found tells it.
func least(l []int, from int) string {
	for _, n := range l {
		if n >= from {
			return fmt.Sprint(n)
		}
	}
	return "none"
}

// ops is how many operations of the device a call takes.
func ops(d *disk.Disk, call func()) int {
	before := d.Ops()
	call()
	return d.Ops() - before
}

// P18.2: Next reads the pair that it is asked for, and no other one, of however many chunks.
func TestHowManyNextReads(t *testing.T) {
	d := disk.New(4000)
	x := begun(t, opened(t, d))
	for n := 1; n <= 500; n++ {
		for a := range 5 {
			put(t, x, api.AccountChanges, four(n)+addr(a), "")
		}
		want(t, "Index", Index(x, n), api.OK)
	}
	want(t, "Commit", x.Commit(), api.OK)
	x = begun(t, opened(t, d))
	for _, from := range []int{-1, 0, 1, 64, 65, 128, 129, 300, 448, 449, 500, 501, api.MaxBlock} {
		one := ops(d, func() { x.Seek(api.AccountIndex, addr(2)+four(max(from, 0))) })
		took := ops(d, func() {
			want(t, "Next", found(Next(x, api.AccountIndex, addr(2), from)), least(count(1, 500, 1), from))
		})
		want(t, fmt.Sprint("the operations of Next from ", from), took, one)
		want(t, "reading takes some", one > 0, true)
	}
	for _, k := range []string{"", addr(2)[:1], addr(2)[:19], addr(9), addr(2) + "\x00", addr(2) + "\x00\x00", "\xff"} {
		took := ops(d, func() { want(t, "Next", found(Next(x, api.AccountIndex, k, 5)), "none") })
		one := ops(d, func() { x.Seek(api.AccountIndex, k+four(5)) })
		want(t, fmt.Sprintf("Next of %x, which has no chunks, reads two pairs at most", k), took <= 2*one, true)
	}
}

// P18.2: of chunks that no set has, without a number where one is asked for, two are read.
func TestHowManyNextReadsOfNoSet(t *testing.T) {
	d := disk.New(4000)
	x := begun(t, opened(t, d))
	for upper := range 400 {
		put(t, x, api.AccountIndex, addr(2)+four(upper), bitset.New(0).Bytes())
	}
	want(t, "Commit", x.Commit(), api.OK)
	x = begun(t, opened(t, d))
	one := ops(d, func() { x.Seek(api.AccountIndex, addr(2)+four(5)) })
	took := ops(d, func() { want(t, "Next", found(Next(x, api.AccountIndex, addr(2), 5)), "none") })
	want(t, "the operations of Next", took, 2*one)
	want(t, "reading takes some", one > 0, true)
}

// wrongChunks are rows of a key's chunks, by their Uppers and their Data, that are no set's.
func wrongChunks() map[string]map[int]string {
	data := func(l ...int) string { return bitset.New(l...).Bytes() }
	full := data(count(1, 64, 1)...)
	const last = api.MaxBlock
	return map[string]map[int]string{
		"bytes that are no set's":       {last: "\x00\x00\x00\x01\x05\x05"},
		"no bytes":                      {last: ""},
		"one byte":                      {last: "x"},
		"an Upper that is none":         {5: data(1, 5)},
		"an Upper 0":                    {0: data(0), last: data(5)},
		"an Upper above MaxBlock":       {last + 1: data(1, 5)},
		"the last one left out":         {64: full},
		"the first one not full":        {5: data(1, 5), last: data(7)},
		"one of more than 64":           {last: data(count(1, 65, 1)...)},
		"an Upper that is no member":    {65: full, last: data(70)},
		"the first one's bytes cut off": {64: full[:20], last: data(70)},
		"the last one's bytes cut off":  {64: full, last: data(70)[:4]},
		"a second last one":             {last: data(70), last + 1: data(71)},
		"an Upper of four bytes ff":     {last: data(70), 1<<32 - 1: data(71)},
		"a number in both":              {64: full, last: data(64, 70)},
		"a last one without a number":   {64: full, last: ""},
	}
}

// wrongSet is a transaction in which an account's or a slot's chunks are no set's, and in which block 80 changed that, and others ahead of and behind it.
func wrongSet(t *testing.T, index, changes byte, k string, chunks map[int]string) *kv.Tx {
	t.Helper()
	x := fresh(t)
	for _, n := range []int{3, 80} {
		put(t, x, api.AccountChanges, four(n)+addr(0), "")
		put(t, x, api.AccountChanges, four(n)+addr(255), "")
		put(t, x, api.SlotChanges, four(n)+slot(0, 1, 1), "")
		put(t, x, api.SlotChanges, four(n)+slot(255, 1, 1), "")
	}
	want(t, "Index", Index(x, 3), api.OK)
	put(t, x, changes, four(80)+k, "")
	for upper, data := range chunks {
		put(t, x, index, k+four(upper), data)
	}
	return x
}

// P18.1, P18.2: chunks that are no set's: Index, Unindex and Blocks tell ErrStore, and have changed nothing.
func TestNoSet(t *testing.T) {
	for what, chunks := range wrongChunks() {
		for _, c := range []struct {
			index, changes byte
			k              string
		}{{api.AccountIndex, api.AccountChanges, addr(1)}, {api.SlotIndex, api.SlotChanges, slot(1, 1, 1)}} {
			x := wrongSet(t, c.index, c.changes, c.k, chunks)
			before := every(x)
			want(t, what+", Blocks", list(Blocks(x, c.index, c.k)), "error 17")
			want(t, what+", Index", Index(x, 80), api.ErrStore)
			want(t, what+", Unindex", Unindex(x, 80), api.ErrStore)
			want(t, what+", the tables", every(x), before)
			want(t, what+", Blocks of another one", list(Blocks(x, api.AccountIndex, addr(0))), "[3]")
		}
	}
}

// P18.2, P18.3: Next tells ErrStore of the chunk that it is asked for, or of the one behind it, and asks nothing of all others; what is as of a block tells what Next does.
func TestNextOfNoSet(t *testing.T) {
	data := func(l ...int) string { return bitset.New(l...).Bytes() }
	for _, c := range []struct {
		what   string
		chunks map[int]string
		from   int
		want   string
	}{
		{"the one asked for", map[int]string{10: "x", 20: data(20), api.MaxBlock: data(30)}, 5, "error 17"},
		{"the one asked for, at its Upper", map[int]string{10: "x", 20: data(20)}, 10, "error 17"},
		{"the one ahead", map[int]string{10: "x", 20: data(15), api.MaxBlock: data(30)}, 11, "15"},
		{"the one behind", map[int]string{10: data(10), 20: "x", api.MaxBlock: data(30)}, 5, "10"},
		{"the one behind, which is asked", map[int]string{10: data(4), 20: "x", api.MaxBlock: data(30)}, 5, "error 17"},
		{"the second behind", map[int]string{10: data(4), 20: data(15), api.MaxBlock: "x"}, 5, "15"},
		{"the second behind, and none ahead", map[int]string{10: data(4), 20: data(4), api.MaxBlock: "x"}, 5, "none"},
		{"the last one", map[int]string{10: data(10), api.MaxBlock: "x"}, 11, "error 17"},
		{"the last one, from MaxBlock", map[int]string{api.MaxBlock: "x"}, api.MaxBlock, "error 17"},
		{"the last one, from above MaxBlock", map[int]string{api.MaxBlock: "x"}, api.MaxBlock + 1, "none"},
		{"one without numbers", map[int]string{10: "", 20: data(15)}, 5, "15"},
		{"one without numbers alone", map[int]string{10: ""}, 5, "none"},
		{"no last one", map[int]string{10: data(10)}, 11, "none"},
		{"behind the last one", map[int]string{api.MaxBlock: data(10), api.MaxBlock + 1: "x"}, 11, "none"},
	} {
		x := fresh(t)
		for upper, d := range c.chunks {
			put(t, x, api.AccountIndex, addr(1)+four(upper), d)
			put(t, x, api.SlotIndex, slot(1, 7, 1)+four(upper), d)
		}
		for _, n := range []int{4, 10, 15, 30} {
			put(t, x, api.AccountChanges, four(n)+addr(1), record(n, 7))
			put(t, x, api.SlotChanges, four(n)+slot(1, 7, 1), value(n))
		}
		put(t, x, api.Accounts, addr(1), record(99, 7))
		put(t, x, api.Slots, slot(1, 7, 1), value(99))
		want(t, c.what+", Next", found(Next(x, api.AccountIndex, addr(1), c.from)), c.want)
		want(t, c.what+", Next of a slot", found(Next(x, api.SlotIndex, slot(1, 7, 1), c.from)), c.want)
		if c.from > api.MaxBlock {
			continue
		}
		nonce, n := c.want+" born 7", 0
		fmt.Sscan(c.want, &n)
		slotTold := fmt.Sprintf("%x", value(n))
		switch c.want {
		case "none":
			nonce, slotTold = "99 born 7", "63"
		case "error 17":
			nonce, slotTold = c.want, c.want
		}
		want(t, c.what+", AccountAt", accountAt(x, 1, c.from-1), nonce)
		want(t, c.what+", SlotAt", slotAt(x, 1, 7, 1, c.from-1), slotTold)
		want(t, c.what+", ValueAt", valueAt(x, 1, 1, c.from-1), slotTold)
	}
}

// P18.3: ValueAt reads the slot's chunks, too, once there is an account.
func TestValueAtOfNoSet(t *testing.T) {
	x := fresh(t)
	follow(t, x, blockOf(1, wrote(1, 1, 1, 5)), blockOf(2, gone(1)))
	put(t, x, api.SlotIndex, slot(1, 1, 1)+four(api.MaxBlock), "x")
	told(t, "ValueAt", 0, func(n int) string { return valueAt(x, 1, 1, n) }, "", "error 17", "", "")
	told(t, "SlotAt", 0, func(n int) string { return slotAt(x, 1, 1, 1, n) }, "error 17", "error 17", "error 17")
}
