package history

import (
	"fmt"
	"math"
	"strings"
	"testing"

	"loess/api"
	"loess/kv"
	"loess/plain"
)

// P18.3: an address that came, changed, was Gone, came anew, and had Reset; one that was never there.
func TestAccountAt(t *testing.T) {
	x := fresh(t)
	follow(t, x, blockOf(2, wrote(1, 7)), blockOf(3, wrote(2, 1)), blockOf(4, wrote(1, 8)), blockOf(5, gone(1)), blockOf(6, gone(1)), blockOf(8, wrote(1, 9)), blockOf(9, anew(1, 10)), blockOf(10))
	at := func(n int) string { return accountAt(x, 1, n) }
	told(t, "AccountAt", 0, at, "none", "none", "7 born 2", "7 born 2", "8 born 2", "none", "none", "none", "9 born 8", "10 born 9", "10 born 9", "10 born 9")
	told(t, "AccountAt of another one", 0, func(n int) string { return accountAt(x, 2, n) }, "none", "none", "none", "1 born 3", "1 born 3")
	told(t, "AccountAt of one that was never there", 0, func(n int) string { return accountAt(x, 3, n) }, "none", "none", "none", "none")
	told(t, "AccountAt of what is no address", 0, func(n int) string { return account(AccountAt(x, addr(1)[:19], n)) }, "none", "none", "none", "none")
	want(t, "as of MaxBlock - 1", at(api.MaxBlock-1), "10 born 9")
	want(t, "one that was never there, as of MaxBlock - 1", accountAt(x, 3, api.MaxBlock-1), "none")
}

// P18.3: all parts of an account are as they were.
func TestAccountAtWhole(t *testing.T) {
	x := fresh(t)
	w := wrote(1, 1)
	w.Balance, w.Code = "\x05\x00", strings.Repeat("\xc0", 32)
	follow(t, x, blockOf(1, w), blockOf(2, wrote(1, 0)), blockOf(3, w))
	whole := "1 born 1: 0500 " + strings.Repeat("c0", 32)
	told(t, "AccountAt", 0, func(n int) string { return accountAt(x, 1, n) }, "none", whole, "0 born 1", whole, whole)
}

// P18.3: a slot that was put, emptied, and put again.
func TestSlotAt(t *testing.T) {
	x := fresh(t)
	follow(t, x, blockOf(1, wrote(1, 1)), blockOf(2, wrote(1, 1, 1, 22, 2, 1)), blockOf(3, wrote(1, 1, 1, 33)), blockOf(4, wrote(1, 1, 2, 2)), blockOf(5, wrote(1, 1, 1, 0)), blockOf(6, wrote(1, 1, 1, 0)), blockOf(7, wrote(1, 1, 1, 77)))
	at := func(n int) string { return slotAt(x, 1, 1, 1, n) }
	told(t, "SlotAt", 0, at, "", "", "16", "21", "21", "", "", "4d", "4d")
	told(t, "ValueAt", 0, func(n int) string { return valueAt(x, 1, 1, n) }, "", "", "16", "21", "21", "", "", "4d", "4d")
	told(t, "SlotAt of another key", 0, func(n int) string { return slotAt(x, 1, 1, 2, n) }, "", "", "01", "01", "02", "02")
	for _, n := range []int{0, 3, 7, 100} {
		want(t, "SlotAt of a key that was never there", slotAt(x, 1, 1, 3, n), "")
		want(t, "SlotAt of another birth", slotAt(x, 1, 2, 1, n), "")
		want(t, "SlotAt of another address", slotAt(x, 2, 1, 1, n), "")
		want(t, "ValueAt of a key that was never there", valueAt(x, 1, 3, n), "")
		want(t, "ValueAt of another address", valueAt(x, 2, 1, n), "")
		want(t, "ValueAt of what is no address", number(ValueAt(x, "", "", n)), "")
	}
	want(t, "as of MaxBlock - 1", at(api.MaxBlock-1), "4d")
}

// P18.3: the slots of an account that was Gone, came anew, and had Reset: those of each birth, and those that there were then.
func TestSlotsOfOneAnew(t *testing.T) {
	x := fresh(t)
	follow(t, x, blockOf(1, wrote(1, 1, 1, 11, 2, 12)), blockOf(2, wrote(1, 1, 1, 21)), blockOf(3, gone(1)), blockOf(5, wrote(1, 1, 1, 51)), blockOf(6, anew(1, 1, 2, 62)), blockOf(7, wrote(1, 1, 1, 71)))
	told(t, "the first birth's slot", 0, func(n int) string { return slotAt(x, 1, 1, 1, n) }, "", "0b", "15", "", "", "", "", "", "")
	told(t, "its other slot", 0, func(n int) string { return slotAt(x, 1, 1, 2, n) }, "", "0c", "0c", "", "", "", "", "", "")
	told(t, "the second birth's slot", 0, func(n int) string { return slotAt(x, 1, 5, 1, n) }, "", "", "", "", "", "33", "", "", "")
	told(t, "the third birth's slot", 0, func(n int) string { return slotAt(x, 1, 6, 1, n) }, "", "", "", "", "", "", "", "47", "47")
	told(t, "ValueAt", 0, func(n int) string { return valueAt(x, 1, 1, n) }, "", "0b", "15", "", "", "33", "", "47", "47")
	told(t, "ValueAt of the other key", 0, func(n int) string { return valueAt(x, 1, 2, n) }, "", "0c", "0c", "", "", "", "3e", "3e", "3e")
}

// P18.3: numbers below 0 and from MaxBlock on, those too whose four bytes are others' again: ErrArg, ahead of all else.
func TestNumbersThatMayNotBe(t *testing.T) {
	x := fresh(t)
	follow(t, x, blockOf(1, wrote(1, 1, 1, 11)), blockOf(2, wrote(1, 2, 1, 22)))
	wrong := fresh(t)
	put(t, wrong, api.AccountIndex, addr(1)+four(api.MaxBlock), "x")
	put(t, wrong, api.SlotIndex, slot(1, 1, 1)+four(api.MaxBlock), "x")
	ended := fresh(t)
	ended.Rollback()
	for what, x := range map[string]*kv.Tx{"a good one": x, "one without a set": wrong, "one that has ended": ended, "nil": nil} {
		for _, n := range []int{-1, -2, -1 << 31, -1 << 32, math.MinInt, api.MaxBlock, api.MaxBlock + 1, 1<<32 - 1, 1 << 32, 1<<32 + 1, math.MaxInt} {
			as := fmt.Sprint(" of ", what, " as of ", n)
			want(t, "AccountAt"+as, accountAt(x, 1, n), "error 1")
			want(t, "SlotAt"+as, slotAt(x, 1, 1, 1, n), "error 1")
			want(t, "ValueAt"+as, valueAt(x, 1, 1, n), "error 1")
			want(t, "ValueAt of no address"+as, valueAt(x, 9, 1, n), "error 1")
		}
	}
}

// P18.3: the last number that may be asked, with a change in MaxBlock itself.
func TestAsOfTheLastNumber(t *testing.T) {
	x := fresh(t)
	follow(t, x, blockOf(1, wrote(1, 1, 1, 11)))
	put(t, x, api.AccountChanges, four(api.MaxBlock)+addr(1), record(5, 1))
	put(t, x, api.SlotChanges, four(api.MaxBlock)+slot(1, 1, 1), value(55))
	want(t, "Index", Index(x, api.MaxBlock), api.OK)
	want(t, "AccountAt", accountAt(x, 1, api.MaxBlock-1), "5 born 1")
	want(t, "SlotAt", slotAt(x, 1, 1, 1, api.MaxBlock-1), "37")
	want(t, "ValueAt", valueAt(x, 1, 1, api.MaxBlock-1), "37")
}

// P18.3: of blocks enough for several chunks, as of each.
func TestAsOfManyBlocks(t *testing.T) {
	x := fresh(t)
	for n := 2; n <= 400; n += 2 {
		follow(t, x, blockOf(n, wrote(1, n, 1, n%7)))
	}
	for n := 2; n <= 405; n++ {
		m := min(n-n%2, 400)
		want(t, fmt.Sprint("AccountAt ", n), accountAt(x, 1, n), fmt.Sprint(m, " born 2"))
		want(t, fmt.Sprint("ValueAt ", n), valueAt(x, 1, 1, n), fmt.Sprintf("%x", value(m%7)))
	}
	told(t, "AccountAt", 0, func(n int) string { return accountAt(x, 1, n) }, "none", "none", "2 born 2")
}

// P18.3: a change that the index names and that is not in the table: ErrStore.
func TestChangesThatAreNotThere(t *testing.T) {
	x := fresh(t)
	follow(t, x, blockOf(1, wrote(1, 1, 1, 11)), blockOf(2, wrote(1, 2, 1, 22)), blockOf(3, wrote(1, 3, 1, 33)))
	remove(t, x, api.SlotChanges, four(2)+slot(1, 1, 1))
	told(t, "SlotAt", 0, func(n int) string { return slotAt(x, 1, 1, 1, n) }, "", "error 17", "16", "21")
	told(t, "ValueAt", 0, func(n int) string { return valueAt(x, 1, 1, n) }, "", "error 17", "16", "21")
	told(t, "AccountAt", 0, func(n int) string { return accountAt(x, 1, n) }, "none", "1 born 1", "2 born 1", "3 born 1")
	remove(t, x, api.AccountChanges, four(3)+addr(1))
	told(t, "AccountAt", 0, func(n int) string { return accountAt(x, 1, n) }, "none", "1 born 1", "error 17", "3 born 1")
	told(t, "ValueAt", 0, func(n int) string { return valueAt(x, 1, 1, n) }, "", "error 17", "error 17", "21")
}

// P18.3: a record that is none, among the changes and among the accounts: ErrStore.
func TestRecordsThatAreNone(t *testing.T) {
	for _, wrong := range []string{"x", "\x80", record(1, 1) + "\x00", record(1, 1)[:4]} {
		x := fresh(t)
		follow(t, x, blockOf(1, wrote(1, 1, 1, 11)), blockOf(2, wrote(1, 2, 1, 22)), blockOf(3, wrote(1, 3, 1, 33)))
		put(t, x, api.AccountChanges, four(2)+addr(1), wrong)
		told(t, "AccountAt", 0, func(n int) string { return accountAt(x, 1, n) }, "none", "error 17", "2 born 1", "3 born 1")
		told(t, "ValueAt", 0, func(n int) string { return valueAt(x, 1, 1, n) }, "", "error 17", "16", "21")
		told(t, "SlotAt", 0, func(n int) string { return slotAt(x, 1, 1, 1, n) }, "", "0b", "16", "21")
		put(t, x, api.Accounts, addr(1), wrong)
		told(t, "AccountAt", 0, func(n int) string { return accountAt(x, 1, n) }, "none", "error 17", "2 born 1", "error 17", "error 17")
		told(t, "ValueAt", 0, func(n int) string { return valueAt(x, 1, 1, n) }, "", "error 17", "16", "error 17", "error 17")
	}
}

// P18.4: blocks that are not indexed yet are not seen as of those ahead; taken out and undone, the answers are those of ahead.
func TestAsOfBehindUndo(t *testing.T) {
	x := fresh(t)
	var blocks []api.Block
	for n := 1; n <= 150; n++ {
		b := blockOf(n, wrote(1, n, n%3, n))
		if n%40 == 0 {
			b = blockOf(n, gone(1))
		}
		blocks = append(blocks, b)
	}
	answers := func(n int) string {
		return fmt.Sprint(accountAt(x, 1, n), " ", valueAt(x, 1, 0, n), " ", valueAt(x, 1, 1, n), " ", valueAt(x, 1, 2, n))
	}
	var states []string
	for n := 0; n <= 150; n++ {
		if n > 0 {
			follow(t, x, blocks[n-1])
		}
		states = append(states, answers(n))
	}
	for last := 150; last > 0; last -= 7 {
		for n := 0; n <= 160; n++ {
			want(t, fmt.Sprint("as of ", n, " of ", last), answers(n), states[min(n, last)])
		}
		for n := last; n > max(last-7, 0); n-- {
			back(t, x, n)
		}
	}
	want(t, "the tables in the end", every(x), "")
	want(t, "Apply", plain.Apply(x, blocks[0]), api.OK)
	want(t, "as of 0, block 1 not indexed", accountAt(x, 1, 0), "1 born 1")
}
