package plain

import (
	"fmt"
	"slices"
	"strings"
	"testing"

	"loess/api"
	"loess/disk"
	"loess/kv"
)

// P17.3: the changes of a block: accounts by rising addresses, then slots by rising SlotKeys.
func TestChanges(t *testing.T) {
	x := fresh(t)
	want(t, "Changes of an empty store", changes(Changes(x, 1)), "")
	apply(t, x, blockOf(1, wrote(1, 1, 1, 11, 200, 12), wrote(2, 2, 3, 13), wrote(3, 3)))
	want(t, "Changes of block 1", changes(Changes(x, 1)), strings.Join([]string{
		changed(1, ""), changed(2, ""), changed(3, ""),
		changedSlot(1, 1, 1, 0), changedSlot(1, 1, 200, 0), changedSlot(2, 1, 3, 0),
	}, "\n"))
	apply(t, x, blockOf(2, anew(1, 5, 0, 20, 9, 21), gone(2), wrote(3, 6, 7, 22), gone(4)))
	want(t, "Changes of block 2", changes(Changes(x, 2)), strings.Join([]string{
		changed(1, record(1, 1)), changed(2, record(2, 1)), changed(3, record(3, 1)), changed(4, ""),
		changedSlot(1, 1, 1, 11), changedSlot(1, 1, 200, 12), changedSlot(1, 2, 0, 0), changedSlot(1, 2, 9, 0), changedSlot(2, 1, 3, 13), changedSlot(3, 1, 7, 0),
	}, "\n"))
	apply(t, x, blockOf(3), blockOf(4, wrote(3, 6)), blockOf(5, wrote(3, 6, 7, 22)))
	want(t, "Changes of a block without Writes", changes(Changes(x, 3)), "")
	want(t, "Changes of a block that changes nothing", changes(Changes(x, 4)), changed(3, record(6, 1)))
	want(t, "Changes of slots that are as they were", changes(Changes(x, 5)), changed(3, record(6, 1))+"\n"+changedSlot(3, 1, 7, 22))
	want(t, "they change nothing", changes(Changes(x, 5)), changes(Changes(x, 5)))
	for _, n := range []int{0, 6, 256, 257, 1 << 24, api.MaxBlock, -1, 1 << 31, 1<<32 - 1} {
		want(t, fmt.Sprint("Changes of ", n), changes(Changes(x, n)), "")
	}
}

// P17.3: each row of a block is told, of its own block alone.
func TestChangesOfRows(t *testing.T) {
	x := fresh(t)
	for i, n := range []int{0, 1, 2, 255, 256, 257, 1 << 24, 1<<32 - 1} {
		put(t, x, api.AccountChanges, four(n)+addr(1), value(i+1))
		put(t, x, api.SlotChanges, four(n)+addr(1)+four(n)+key(1), value(i+101))
	}
	for i, n := range []int{0, 1, 2, 255, 256, 257, 1 << 24, 1<<32 - 1} {
		want(t, fmt.Sprint("Changes of ", n), changes(Changes(x, n)), changed(1, value(i+1))+"\n"+changedSlot(1, n, 1, i+101))
	}
	want(t, "Changes of -1", changes(Changes(x, -1)), changes(Changes(x, 1<<32-1)))
	want(t, "Changes of 2^32", changes(Changes(x, 1<<32)), changes(Changes(x, 0)))
	want(t, "Changes of 3", changes(Changes(x, 3)), "")
	want(t, "Changes of 2^16", changes(Changes(x, 1<<16)), "")
}

// P17.3: rows of the greatest keys and addresses, the last ones of their tables.
func TestLastRows(t *testing.T) {
	x := fresh(t)
	last := api.Block{Number: api.MaxBlock, Writes: []api.Write{{Addr: full(20), Nonce: 1, Slots: []api.Slot{{Key: full(32), Value: full(32)}}}}}
	apply(t, x, last)
	l, e := Changes(x, api.MaxBlock)
	want(t, "Changes", changes(l, e), fmt.Sprintf("%x 0 : \n%x %d %x: ", full(20), full(20), api.MaxBlock, full(32)))
	undo(t, x, api.MaxBlock)
	stands(t, "nothing is left", x)
}

// R3: what Changes tells is its owner's.
func TestChangesTold(t *testing.T) {
	x := fresh(t)
	apply(t, x, filled()...)
	l, _ := Changes(x, 2)
	text := changes(l, api.OK)
	m, _ := Changes(x, 2)
	for i := range l {
		l[i] = api.Change{Addr: "other", Key: "other", Old: "other", Born: 7}
	}
	l = append(l[:1], l[2:]...)
	want(t, "another list", changes(m, api.OK), text)
	want(t, "Changes anew", changes(Changes(x, 2)), text)
	undo(t, x, 2)
	want(t, "the list behind Undo", changes(m, api.OK), text)
	want(t, "Changes behind Undo", changes(Changes(x, 2)), "")
}

// P17.3 and P1: rows that were written by somebody else. One that names no slot is ErrStore, and nothing is undone.
func TestStrangeRows(t *testing.T) {
	for size := range 25 {
		x := fresh(t)
		apply(t, x, filled()...)
		put(t, x, api.SlotChanges, four(2)+strings.Repeat("\x01", size), "\x05")
		before := all(x)
		want(t, fmt.Sprint("Changes with a slot of ", size), changes(Changes(x, 2)), "error 17")
		want(t, fmt.Sprint("Undo with a slot of ", size), Undo(x, 2), api.ErrStore)
		want(t, "it changes nothing", all(x), before)
		want(t, "another block", changes(Changes(x, 1)) != "", true)
	}
	x := fresh(t)
	put(t, x, api.AccountChanges, "", "short")
	put(t, x, api.AccountChanges, four(2)[:3], "short")
	put(t, x, api.SlotChanges, "", "short")
	put(t, x, api.SlotChanges, four(2)[:3], "short")
	short := []string{
		row(api.AccountChanges, "short"), row(api.AccountChanges, "short", four(2)[:3]), row(api.SlotChanges, "short"), row(api.SlotChanges, "short", four(2)[:3]),
	}
	for _, n := range []int{0, 1, 2} {
		want(t, fmt.Sprint("Changes beside short rows of ", n), changes(Changes(x, n)), "")
		undo(t, x, n)
	}
	stands(t, "they stay", x, short...)
	put(t, x, api.AccountChanges, four(2), "of no address")
	put(t, x, api.AccountChanges, four(2)+"a", "of a short one")
	put(t, x, api.AccountChanges, four(2)+"a\x00", "of one behind it")
	put(t, x, api.AccountChanges, four(2)+"a\x00\x00", "of another")
	put(t, x, api.SlotChanges, four(2)+addr(1)+four(1)+"k", "\x05")
	put(t, x, api.SlotChanges, four(2)+addr(1)+four(1)+full(99), "\x06")
	put(t, x, api.Slots, SlotKey(addr(1), 1, "k"), "\x07")
	want(t, "Changes of other sizes", changes(Changes(x, 2)), fmt.Sprintf(" 0 : %x\n61 0 : %x\n6100 0 : %x\n610000 0 : %x\n%x 1 6b: 05\n%x 1 %x: 06", "of no address", "of a short one", "of one behind it", "of another", addr(1), addr(1), full(99)))
	undo(t, x, 2)
	stands(t, "Undo of other sizes", x, append(short,
		row(api.Accounts, "of no address"), row(api.Accounts, "of a short one", "a"), row(api.Accounts, "of one behind it", "a\x00"), row(api.Accounts, "of another", "a\x00\x00"),
		row(api.Slots, "\x05", addr(1), four(1), "k"), row(api.Slots, "\x06", addr(1), four(1), full(99)))...)
}

// steps are blocks by rising numbers that have Writes of all kinds.
func steps() []api.Block {
	return []api.Block{
		blockOf(1, wrote(1, 1, 1, 11, 2, 12), wrote(2, 2), wrote(3, 3, 1, 13)),
		blockOf(2, wrote(1, 1, 1, 0, 2, 22, 3, 23), wrote(2, 2, 5, 25)),
		blockOf(3),
		blockOf(4, gone(1), anew(2, 4, 5, 45), gone(9)),
		blockOf(5, wrote(1, 5, 2, 52), wrote(2, 5), anew(4, 5)),
		blockOf(8, anew(1, 8, 2, 82), gone(2), anew(3, 8, 1, 83, 2, 84)),
		blockOf(255, wrote(3, 8, 1, 83, 2, 84)),
		blockOf(256, gone(3), gone(4), wrote(5, 9, 0, 95, 255, 96)),
		blockOf(257, wrote(3, 1, 1, 1), wrote(4, 1), wrote(5, 9, 0, 0, 255, 0)),
		blockOf(65536, gone(1), gone(2), gone(3), gone(4), gone(5)),
		blockOf(api.MaxBlock, wrote(1, 1, 1, 1), anew(2, 2, 2, 2), wrote(3, 3, 3, 3)),
	}
}

// P17.3 and P17.4: all of them undone one by one, each as if it had never been applied.
func TestUndo(t *testing.T) {
	x := fresh(t)
	var before []string
	l := steps()
	for _, b := range l {
		before = append(before, all(x))
		apply(t, x, b)
	}
	for i, b := range slices.Backward(l) {
		undo(t, x, b.Number)
		want(t, fmt.Sprint("behind Undo of ", b.Number), all(x), before[i])
	}
	stands(t, "nothing is left", x)
}

// P17.3: each of them undone as soon as it was applied, and applied again.
func TestUndoAtOnce(t *testing.T) {
	x := fresh(t)
	for _, b := range steps() {
		before := all(x)
		apply(t, x, b)
		behind := all(x)
		undo(t, x, b.Number)
		want(t, fmt.Sprint("behind Undo of ", b.Number), all(x), before)
		want(t, fmt.Sprint("Changes behind Undo of ", b.Number), changes(Changes(x, b.Number)), "")
		undo(t, x, b.Number)
		want(t, fmt.Sprint("behind a second Undo of ", b.Number), all(x), before)
		apply(t, x, b)
		want(t, fmt.Sprint("block ", b.Number, " again"), all(x), behind)
	}
}

// P17.3: slots of an account that was born in block 0, as none is.
func TestUndoOfBornInNone(t *testing.T) {
	x := fresh(t)
	put(t, x, api.Accounts, addr(1), record(1, 0))
	put(t, x, api.Slots, SlotKey(addr(1), 0, key(1)), "\x05")
	before := all(x)
	for _, w := range []api.Write{wrote(1, 1, 1, 6, 2, 7), anew(1, 1, 1, 6), gone(1)} {
		apply(t, x, blockOf(1, w))
		want(t, "Changes", strings.Contains(changes(Changes(x, 1)), changed(1, record(1, 0))+"\n"+changedSlot(1, 0, 1, 5)), true)
		undo(t, x, 1)
		want(t, "undone", all(x), before)
	}
}

// P17.3: Undo of a number that was never applied changes nothing.
func TestUndoOfNone(t *testing.T) {
	x := fresh(t)
	undo(t, x, 0, 1, -1)
	stands(t, "nothing", x)
	apply(t, x, filled()...)
	before := all(x)
	undo(t, x, 0, 3, 256, 257, 258, 1<<24, 1<<25, api.MaxBlock, 1<<31, 1<<32-1, -1, -2)
	want(t, "they are as they were", all(x), before)
}

// P17.4: another block behind an Undo is as on a store that never had the first.
func TestAnotherBehindUndo(t *testing.T) {
	l := steps()
	others := []api.Block{
		blockOf(0, wrote(1, 7, 1, 70, 9, 79), gone(2), anew(3, 7, 1, 71)), blockOf(0), blockOf(0, gone(1)), blockOf(0, anew(1, 7)), blockOf(0, wrote(9, 9, 9, 9)),
	}
	for i, b := range l {
		for _, other := range others {
			x, y := fresh(t), fresh(t)
			apply(t, x, l[:i+1]...)
			undo(t, x, b.Number)
			other.Number = b.Number
			apply(t, x, other)
			apply(t, y, append(slices.Clone(l[:i]), other)...)
			want(t, fmt.Sprint("another block ", b.Number), all(x), all(y))
		}
	}
}

// P17.4: transactions in between change nothing of it.
func TestOverTransactions(t *testing.T) {
	s := opened(t, disk.New(4000))
	var before []string
	l := steps()
	in := func(do func(x *kv.Tx)) {
		x := begun(t, s)
		do(x)
		want(t, "Commit", x.Commit(), api.OK)
	}
	for _, b := range l {
		in(func(x *kv.Tx) { before = append(before, all(x)); apply(t, x, b) })
		x := begun(t, s)
		undo(t, x, b.Number)
		x.Rollback()
	}
	for i, b := range slices.Backward(l) {
		want(t, "Reopen", s.Reopen(), api.OK)
		in(func(x *kv.Tx) { undo(t, x, b.Number) })
		in(func(x *kv.Tx) { want(t, fmt.Sprint("behind Undo of ", b.Number), all(x), before[i]) })
	}
}
