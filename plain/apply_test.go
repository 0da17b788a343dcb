package plain

import (
	"fmt"
	"math"
	"strings"
	"testing"

	"loess/api"
)

// P17.2: a block without Writes.
func TestNoWrites(t *testing.T) {
	x := fresh(t)
	apply(t, x, blockOf(1), blockOf(api.MaxBlock))
	stands(t, "nothing", x)
	apply(t, x, blockOf(2, wrote(1, 1, 1, 5)))
	before := all(x)
	apply(t, x, blockOf(3))
	want(t, "nothing more", all(x), before)
}

// P17.2: accounts that come to be, and that change.
func TestWrites(t *testing.T) {
	x := fresh(t)
	great := api.Account{Nonce: math.MaxUint64, Balance: full(32), Code: full(32), Born: 7}
	apply(t, x, blockOf(7, api.Write{Addr: addr(1), Nonce: great.Nonce, Balance: great.Balance, Code: great.Code}))
	stands(t, "a new account", x, accountRow(1, recordOf(great)), accountChange(7, 1, ""))
	apply(t, x, blockOf(8, wrote(1, 2)))
	stands(t, "it changes", x, accountRow(1, record(2, 7)), accountChange(7, 1, ""), accountChange(8, 1, recordOf(great)))
	apply(t, x, blockOf(9, wrote(1, 2)))
	stands(t, "what changes nothing is a change, too", x,
		accountRow(1, record(2, 7)), accountChange(7, 1, ""), accountChange(8, 1, recordOf(great)), accountChange(9, 1, record(2, 7)))
}

// P17.2: an empty account is one.
func TestEmptyAccount(t *testing.T) {
	x := fresh(t)
	apply(t, x, blockOf(1, wrote(1, 0)), blockOf(2, wrote(1, 0)))
	stands(t, "an empty account", x, accountRow(1, record(0, 1)), accountChange(1, 1, ""), accountChange(2, 1, record(0, 1)))
}

// P17.2: the births and changes of great numbers.
func TestGreatNumbers(t *testing.T) {
	for _, n := range []int{255, 256, 257, 65536, 1 << 24, 1 << 30, api.MaxBlock} {
		x := fresh(t)
		apply(t, x, blockOf(n, wrote(1, 1, 1, 5)))
		stands(t, fmt.Sprint("block ", n), x, accountRow(1, record(1, n)), slotRow(1, n, 1, 5), accountChange(n, 1, ""), slotChange(n, 1, n, 1, 0))
	}
}

// P17.2: slots that are put, that change, that are emptied, that were empty.
func TestSlots(t *testing.T) {
	x := fresh(t)
	apply(t, x, blockOf(1, wrote(1, 1, 1, 5, 2, 6, 3, 7, 4, 0)))
	rows := []string{
		accountChange(1, 1, ""), slotChange(1, 1, 1, 1, 0), slotChange(1, 1, 1, 2, 0), slotChange(1, 1, 1, 3, 0), slotChange(1, 1, 1, 4, 0),
	}
	now := []string{accountRow(1, record(1, 1)), slotRow(1, 1, 1, 5), slotRow(1, 1, 2, 6), slotRow(1, 1, 3, 7)}
	stands(t, "they are put", x, append(now, rows...)...)
	// The first is emptied, the second put anew, the third stays, the fourth was empty and is, the fifth comes, the sixth is written as it stands.
	apply(t, x, blockOf(2, wrote(1, 1, 1, 0, 2, 600, 4, 0, 5, 9)))
	rows = append(rows,
		accountChange(2, 1, record(1, 1)), slotChange(2, 1, 1, 1, 5), slotChange(2, 1, 1, 2, 6), slotChange(2, 1, 1, 4, 0), slotChange(2, 1, 1, 5, 0))
	now = []string{accountRow(1, record(1, 1)), slotRow(1, 1, 2, 600), slotRow(1, 1, 3, 7), slotRow(1, 1, 5, 9)}
	stands(t, "they change", x, append(now, rows...)...)
	apply(t, x, blockOf(3, wrote(1, 1, 2, 600)))
	rows = append(rows, accountChange(3, 1, record(1, 1)), slotChange(3, 1, 1, 2, 600))
	stands(t, "one is written as it stands", x, append(now, rows...)...)
}

// P17.2: numbers of the least and the greatest size, at the least and the greatest key.
func TestSlotEdges(t *testing.T) {
	x := fresh(t)
	zero, most := strings.Repeat("\x00", 32), full(32)
	a := full(20)
	apply(t, x, api.Block{Number: 1, Writes: []api.Write{{Addr: a, Slots: []api.Slot{{Key: zero, Value: "\x01"}, {Key: most, Value: most}}}}})
	stands(t, "edges", x,
		row(api.Accounts, record(0, 1), a), row(api.AccountChanges, "", four(1), a),
		row(api.Slots, "\x01", a, four(1), zero), row(api.Slots, most, a, four(1), most),
		row(api.SlotChanges, "", four(1), a, four(1), zero), row(api.SlotChanges, "", four(1), a, four(1), most))
	apply(t, x, api.Block{Number: 2, Writes: []api.Write{{Addr: a, Gone: true}}})
	stands(t, "edges, gone", x,
		row(api.AccountChanges, "", four(1), a), row(api.AccountChanges, record(0, 1), four(2), a),
		row(api.SlotChanges, "", four(1), a, four(1), zero), row(api.SlotChanges, "", four(1), a, four(1), most),
		row(api.SlotChanges, "\x01", four(2), a, four(1), zero), row(api.SlotChanges, most, four(2), a, four(1), most))
}

// P17.2: an account that is gone: all its slots stand among the changes, under its birth.
func TestGone(t *testing.T) {
	x := fresh(t)
	apply(t, x, blockOf(3, wrote(1, 1, 1, 5, 2, 6)), blockOf(5, gone(1)))
	rows := []string{
		accountChange(3, 1, ""), slotChange(3, 1, 3, 1, 0), slotChange(3, 1, 3, 2, 0),
		accountChange(5, 1, record(1, 3)), slotChange(5, 1, 3, 1, 5), slotChange(5, 1, 3, 2, 6),
	}
	stands(t, "gone", x, rows...)
	apply(t, x, blockOf(6, gone(1)))
	rows = append(rows, accountChange(6, 1, ""))
	stands(t, "gone again", x, rows...)
	apply(t, x, blockOf(7, wrote(1, 2, 2, 8)))
	rows = append(rows, accountChange(7, 1, ""), slotChange(7, 1, 7, 2, 0))
	stands(t, "there again", x, append(rows, accountRow(1, record(2, 7)), slotRow(1, 7, 2, 8))...)
	apply(t, x, blockOf(8, gone(1)))
	stands(t, "gone once more", x, append(rows, accountChange(8, 1, record(2, 7)), slotChange(8, 1, 7, 2, 8))...)
}

// P17.2: Gone of an account that never was, and of one without slots.
func TestGoneOfLittle(t *testing.T) {
	x := fresh(t)
	apply(t, x, blockOf(1, gone(1)))
	stands(t, "gone of none", x, accountChange(1, 1, ""))
	apply(t, x, blockOf(2, wrote(1, 1)), blockOf(3, gone(1)))
	stands(t, "gone without slots", x, accountChange(1, 1, ""), accountChange(2, 1, ""), accountChange(3, 1, record(1, 2)))
}

// P17.2: slots without an account are nobody's, and stay.
func TestNobodysSlots(t *testing.T) {
	x := fresh(t)
	for _, born := range []int{0, 1, 3, 4} {
		put(t, x, api.Slots, SlotKey(addr(1), born, key(1)), "\x05")
	}
	apply(t, x, blockOf(3, gone(1)), blockOf(4, anew(1, 1, 2, 6)))
	stands(t, "nobody's slots", x, slotRow(1, 0, 1, 5), slotRow(1, 1, 1, 5), slotRow(1, 3, 1, 5), slotRow(1, 4, 1, 5),
		accountRow(1, record(1, 4)), slotRow(1, 4, 2, 6), accountChange(3, 1, ""), accountChange(4, 1, ""), slotChange(4, 1, 4, 2, 0))
}

// P17.2: an account that came anew: what it had stands among the changes under the old birth, what it has under the new one.
func TestReset(t *testing.T) {
	x := fresh(t)
	apply(t, x, blockOf(1, wrote(1, 1, 1, 5, 2, 6)), blockOf(2, anew(1, 2, 2, 7, 3, 8, 4, 0)))
	rows := []string{
		accountChange(1, 1, ""), slotChange(1, 1, 1, 1, 0), slotChange(1, 1, 1, 2, 0),
		accountChange(2, 1, record(1, 1)), slotChange(2, 1, 1, 1, 5), slotChange(2, 1, 1, 2, 6),
		slotChange(2, 1, 2, 2, 0), slotChange(2, 1, 2, 3, 0), slotChange(2, 1, 2, 4, 0),
	}
	stands(t, "anew", x, append(rows, accountRow(1, record(2, 2)), slotRow(1, 2, 2, 7), slotRow(1, 2, 3, 8))...)
	apply(t, x, blockOf(3, anew(1, 2)))
	rows = append(rows, accountChange(3, 1, record(2, 2)), slotChange(3, 1, 2, 2, 7), slotChange(3, 1, 2, 3, 8))
	stands(t, "anew without slots", x, append(rows, accountRow(1, record(2, 3)))...)
	apply(t, x, blockOf(4, anew(1, 0)))
	rows = append(rows, accountChange(4, 1, record(2, 3)))
	stands(t, "anew that had none", x, append(rows, accountRow(1, record(0, 4)))...)
}

// P17.2: Reset where there was no account is as without.
func TestResetOfNone(t *testing.T) {
	x := fresh(t)
	apply(t, x, blockOf(4, anew(1, 1, 1, 5)))
	stands(t, "anew", x, accountRow(1, record(1, 4)), slotRow(1, 4, 1, 5), accountChange(4, 1, ""), slotChange(4, 1, 4, 1, 0))
	x, y := fresh(t), fresh(t)
	apply(t, x, blockOf(1, wrote(1, 1, 1, 5)), blockOf(2, gone(1)), blockOf(3, anew(1, 1, 1, 6)))
	apply(t, y, blockOf(1, wrote(1, 1, 1, 5)), blockOf(2, gone(1)), blockOf(3, wrote(1, 1, 1, 6)))
	want(t, "behind one that is gone", all(x), all(y))
}

// P17.2: an account that stays keeps the slots that a block doesn't write.
func TestSlotsStay(t *testing.T) {
	x := fresh(t)
	apply(t, x, blockOf(1, wrote(1, 1, 1, 5)), blockOf(2, wrote(1, 2)), blockOf(3, wrote(1, 2, 2, 6)))
	stands(t, "slots that stay", x, accountRow(1, record(2, 1)), slotRow(1, 1, 1, 5), slotRow(1, 1, 2, 6),
		accountChange(1, 1, ""), accountChange(2, 1, record(1, 1)), accountChange(3, 1, record(2, 1)), slotChange(1, 1, 1, 1, 0), slotChange(3, 1, 1, 2, 0))
}

// P17.2: several Writes, each of its own kind.
func TestSeveralWrites(t *testing.T) {
	x := fresh(t)
	apply(t, x, blockOf(1, wrote(1, 1, 1, 11), wrote(2, 2, 1, 12), wrote(3, 3, 1, 13), wrote(4, 4, 1, 14)))
	apply(t, x, blockOf(2, wrote(1, 10, 2, 21), gone(2), anew(3, 30, 1, 23), gone(5), wrote(6, 60, 1, 26)))
	stands(t, "several", x,
		accountRow(1, record(10, 1)), accountRow(3, record(30, 2)), accountRow(4, record(4, 1)), accountRow(6, record(60, 2)),
		slotRow(1, 1, 1, 11), slotRow(1, 1, 2, 21), slotRow(3, 2, 1, 23), slotRow(4, 1, 1, 14), slotRow(6, 2, 1, 26),
		accountChange(1, 1, ""), accountChange(1, 2, ""), accountChange(1, 3, ""), accountChange(1, 4, ""),
		slotChange(1, 1, 1, 1, 0), slotChange(1, 2, 1, 1, 0), slotChange(1, 3, 1, 1, 0), slotChange(1, 4, 1, 1, 0),
		accountChange(2, 1, record(1, 1)), accountChange(2, 2, record(2, 1)), accountChange(2, 3, record(3, 1)), accountChange(2, 5, ""), accountChange(2, 6, ""),
		slotChange(2, 1, 1, 2, 0), slotChange(2, 2, 1, 1, 12), slotChange(2, 3, 1, 1, 13), slotChange(2, 3, 2, 1, 0), slotChange(2, 6, 2, 1, 0))
}

// P17.2: an account of more slots than one block may write.
func TestManySlots(t *testing.T) {
	x := fresh(t)
	var rows, kept []string
	for n := 1; n <= 5; n++ {
		w := wrote(1, n)
		for k := range 50 {
			w.Slots = append(w.Slots, slots(n*50-50+k, n*1000+k)...)
			rows = append(rows, slotChange(n, 1, 1, n*50-50+k, 0))
			kept = append(kept, slotChange(6, 1, 1, n*50-50+k, n*1000+k))
		}
		apply(t, x, blockOf(n, w))
		old := ""
		if n > 1 {
			old = record(uint64(n-1), 1)
		}
		rows = append(rows, accountChange(n, 1, old))
	}
	before := all(x)
	rows = append(rows, accountChange(6, 1, record(5, 1)))
	apply(t, x, blockOf(6, gone(1)))
	stands(t, "250 slots, gone", x, append(rows, kept...)...)
	undo(t, x, 6)
	want(t, "and back", all(x), before)
	apply(t, x, blockOf(6, anew(1, 9, 249, 1)))
	stands(t, "250 slots, anew", x, append(append(rows, kept...), accountRow(1, record(9, 6)), slotRow(1, 6, 249, 1), slotChange(6, 1, 6, 249, 0))...)
}

// P17.2: other addresses keep their slots: those next to it, one that it begins, one that begins it; and so does another birth.
func TestOthersKeepTheirSlots(t *testing.T) {
	a := addr(5)
	others := []string{
		a[:19] + "\xac", a[:19] + "\xae", addr(4), addr(6), a[1:] + "\x05", strings.Repeat("\x00", 20), full(20),
		a[:19], a[:1], "", a + "\x00", a + "\x00\x00\x00", a + "\x00\x00\x00\x01", a + "\xff", a + a, a + "\x00\x00\x00\x01" + a,
	}
	for _, w := range []api.Write{gone(5), anew(5, 9)} {
		x := fresh(t)
		var rows []string
		for _, o := range others {
			for _, born := range []int{0, 1, 2, 1 << 24, 1<<32 - 1} {
				put(t, x, api.Slots, SlotKey(o, born, key(1)), "\x05")
				rows = append(rows, row(api.Slots, "\x05", o, four(born), key(1)))
			}
		}
		for _, born := range []int{0, 2, 257, 1 << 24, 1<<32 - 1} {
			put(t, x, api.Slots, SlotKey(a, born, key(1)), "\x05")
			rows = append(rows, slotRow(5, born, 1, 5))
		}
		apply(t, x, blockOf(1, wrote(5, 1, 0, 5, 1, 5, 255, 5)))
		before := all(x)
		apply(t, x, blockOf(7, w))
		rows = append(rows,
			accountChange(1, 5, ""), slotChange(1, 5, 1, 0, 0), slotChange(1, 5, 1, 1, 0), slotChange(1, 5, 1, 255, 0),
			accountChange(7, 5, record(1, 1)), slotChange(7, 5, 1, 0, 5), slotChange(7, 5, 1, 1, 5), slotChange(7, 5, 1, 255, 5))
		if !w.Gone {
			rows = append(rows, accountRow(5, record(9, 7)))
		}
		stands(t, fmt.Sprint("others, Gone ", w.Gone), x, rows...)
		undo(t, x, 7)
		want(t, fmt.Sprint("others, undone, Gone ", w.Gone), all(x), before)
	}
}

// P17.2: what was written ahead of a block of the same number is kept as it was ahead of it, though it is emptied and written in one.
func TestSameNumber(t *testing.T) {
	x := fresh(t)
	put(t, x, api.Accounts, addr(1), record(1, 4))
	put(t, x, api.Slots, SlotKey(addr(1), 4, key(1)), "\x05")
	put(t, x, api.Slots, SlotKey(addr(1), 4, key(2)), "\x06")
	before := all(x)
	apply(t, x, blockOf(4, anew(1, 2, 1, 7, 3, 8)))
	stands(t, "anew in the block that it was born in", x, accountRow(1, record(2, 4)), slotRow(1, 4, 1, 7), slotRow(1, 4, 3, 8),
		accountChange(4, 1, record(1, 4)), slotChange(4, 1, 4, 1, 5), slotChange(4, 1, 4, 2, 6), slotChange(4, 1, 4, 3, 0))
	undo(t, x, 4)
	want(t, "undone", all(x), before)
}

// wrongBlocks are such as may not be.
func wrongBlocks() map[string]api.Block {
	var many []api.Write
	for i := range 65 {
		many = append(many, wrote(i, 1))
	}
	both, nonce := gone(2), gone(2)
	both.Reset, nonce.Nonce = true, 1
	slotted := gone(2)
	slotted.Slots = slots(1, 1)
	return map[string]api.Block{
		"none":                 {},
		"block 0":              blockOf(0, wrote(1, 1)),
		"block -1":             blockOf(-1, wrote(1, 1)),
		"block 2^31":           blockOf(api.MaxBlock+1, wrote(1, 1)),
		"block 2^32 + 5":       blockOf(1<<32+5, wrote(1, 1)),
		"65 Writes":            blockOf(5, many...),
		"two of one address":   blockOf(5, wrote(1, 1), wrote(1, 2)),
		"addresses that fall":  blockOf(5, wrote(2, 1), wrote(1, 2)),
		"an address too short": blockOf(5, wrote(1, 1), api.Write{Addr: addr(2)[:19]}),
		"an address too long":  blockOf(5, wrote(1, 1), api.Write{Addr: addr(2) + "a"}),
		"a balance":            blockOf(5, wrote(1, 1), api.Write{Addr: addr(2), Balance: "\x00"}),
		"a code":               blockOf(5, wrote(1, 1), api.Write{Addr: addr(2), Code: "\x00"}),
		"two slots of one key": blockOf(5, wrote(1, 1, 1, 1, 1, 2)),
		"keys that fall":       blockOf(5, wrote(1, 1, 2, 1, 1, 2)),
		"a key too short":      blockOf(5, wrote(1, 1), api.Write{Addr: addr(2), Slots: []api.Slot{{Key: "k", Value: "\x01"}}}),
		"a value":              blockOf(5, wrote(1, 1), api.Write{Addr: addr(2), Slots: []api.Slot{{Key: key(1), Value: "\x00\x01"}}}),
		"Gone and Reset":       blockOf(5, wrote(1, 1), both),
		"Gone with a Nonce":    blockOf(5, wrote(1, 1), nonce),
		"Gone with Slots":      blockOf(5, wrote(1, 1), slotted),
	}
}

// P17.2: a block that may not be is ErrBlock, and changes nothing.
func TestWrongBlocks(t *testing.T) {
	x := fresh(t)
	apply(t, x, filled()...)
	put(t, x, api.Accounts, addr(3), "no record")
	before := all(x)
	for what, b := range wrongBlocks() {
		want(t, what, Apply(x, b), api.ErrBlock)
		want(t, what+" changes nothing", all(x), before)
		// That is named first.
		want(t, what+", without a transaction", Apply(nil, b), api.ErrBlock)
		if len(b.Writes) < 3 && b.Number == 5 {
			b.Writes = append([]api.Write{wrote(0, 1)}, append(b.Writes, wrote(3, 1))...)
			want(t, what+", beside a record that is none", Apply(x, b), api.ErrBlock)
			want(t, what+" changes nothing beside it", all(x), before)
		}
	}
}

// P17.2 and P17.1: a record that is none is ErrStore, and nothing is changed.
func TestApplyOfNoRecord(t *testing.T) {
	for _, s := range noRecords() {
		x := fresh(t)
		apply(t, x, filled()...)
		put(t, x, api.Accounts, addr(9), s)
		before := all(x)
		for _, w := range []api.Write{wrote(9, 1), wrote(9, 1, 1, 5), anew(9, 1), gone(9)} {
			what := fmt.Sprintf("record %x", s)
			want(t, what, Apply(x, blockOf(5, w)), api.ErrStore)
			want(t, what+" behind others", Apply(x, blockOf(5, wrote(0, 7), gone(1), anew(2, 5, 1, 5), w)), api.ErrStore)
			want(t, what+" ahead of others", Apply(x, blockOf(5, w, wrote(10, 7))), api.ErrStore)
			want(t, what+" changes nothing", all(x), before)
		}
		apply(t, x, blockOf(5, wrote(1, 9)))
	}
}

// R3: a block that is handed in stays, and may be changed behind the call.
func TestBlockStays(t *testing.T) {
	x := fresh(t)
	apply(t, x, filled()...)
	b := blockOf(5, wrote(1, 7, 1, 9, 2, 0, 9, 7), anew(2, 8, 1, 5), gone(3), wrote(4, 1))
	text := fmt.Sprint(b)
	apply(t, x, b)
	want(t, "the block", fmt.Sprint(b), text)
	before := all(x)
	for i := range b.Writes {
		for j := range b.Writes[i].Slots {
			b.Writes[i].Slots[j] = api.Slot{Key: key(77), Value: "\x77"}
		}
		b.Writes[i] = api.Write{Addr: addr(77)}
	}
	want(t, "the tables", all(x), before)
	undo(t, x, 5)
	y := fresh(t)
	apply(t, y, filled()...)
	want(t, "the tables, undone", all(x), all(y))
}
