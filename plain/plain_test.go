package plain

import (
	"fmt"
	"math"
	"math/rand"
	"strings"
	"testing"

	"loess/api"
)

// The chapter's examples.
func TestExamples(t *testing.T) {
	x := fresh(t)
	a, k := addr(1), key(1)
	want(t, "Apply of block 1", Apply(x, blockOf(1, wrote(1, 1, 1, 5))), api.OK)
	want(t, "Account", account(Account(x, a)), "nonce 1 balance  code  born 1")
	want(t, "Value", number(Value(x, a, k)), "05")
	want(t, "Apply of block 2", Apply(x, blockOf(2, gone(1))), api.OK)
	want(t, "Value of what is gone", number(Value(x, a, k)), "")
	want(t, "Changes", changes(Changes(x, 2)), changed(1, record(1, 1))+"\n"+changedSlot(1, 1, 1, 5))
	want(t, "Undo of 2", Undo(x, 2), api.OK)
	want(t, "Value behind it", number(Value(x, a, k)), "05")
	want(t, "Undo of 1", Undo(x, 1), api.OK)
	want(t, "Account behind it", account(Account(x, a)), "none")
	stands(t, "nothing is left", x)
}

// Numbers are parts of keys: modulo 2^32, the greatest byte first.
func TestNumber(t *testing.T) {
	for n, s := range map[int]string{
		0: "00000000", 1: "00000001", 127: "0000007f", 128: "00000080", 255: "000000ff", 256: "00000100", 257: "00000101",
		65535: "0000ffff", 65536: "00010000", 1<<24 - 1: "00ffffff", 1 << 24: "01000000", 0x12345678: "12345678",
		api.MaxBlock: "7fffffff", api.MaxBlock + 1: "80000000", 1<<32 - 1: "ffffffff", 1<<32 - 2: "fffffffe",
		1 << 32: "00000000", 1<<32 + 1: "00000001", 1<<32 + 0x12345678: "12345678", 3<<32 + 7: "00000007", math.MaxInt: "ffffffff",
		-1: "ffffffff", -2: "fffffffe", -256: "ffffff00", -1 << 31: "80000000", -1 << 32: "00000000", -1<<32 - 1: "ffffffff", math.MinInt: "00000000", math.MinInt + 5: "00000005",
	} {
		want(t, fmt.Sprint("Number of ", n), fmt.Sprintf("%x", Number(n)), s)
	}
	r := rand.New(rand.NewSource(17))
	for range 2000 {
		a, b := r.Intn(1<<32)>>r.Intn(32), r.Intn(1<<32)>>r.Intn(32)
		want(t, fmt.Sprint("order of ", a, " and ", b), Number(a) < Number(b), a < b)
	}
}

// A SlotKey is an address, a birth and a key, of whatever lengths.
func TestSlotKey(t *testing.T) {
	for _, a := range []string{"", "a", addr(1), addr(1) + "b", full(300)} {
		for _, k := range []string{"", "k", key(1), key(1) + "l", full(400)} {
			for n, four := range map[int]string{0: "\x00\x00\x00\x00", 1: "\x00\x00\x00\x01", 258: "\x00\x00\x01\x02", api.MaxBlock: "\x7f\xff\xff\xff", -1: "\xff\xff\xff\xff", 1 << 32: "\x00\x00\x00\x00"} {
				want(t, fmt.Sprintf("SlotKey of %x, %d, %x", a, n, k), SlotKey(a, n, k), a+four+k)
			}
		}
	}
	want(t, "how many bytes a SlotKey has", len(SlotKey(addr(1), 1, key(1))), 56)
}

// P17.1: accounts that are there, and that are not.
func TestAccount(t *testing.T) {
	x := fresh(t)
	want(t, "Account of an empty store", account(Account(x, addr(1))), "none")
	for i, a := range []api.Account{
		{}, {Nonce: 1}, {Nonce: 128, Born: 1}, {Nonce: math.MaxUint64, Balance: full(32), Code: full(32), Born: api.MaxBlock},
		{Balance: "\x01\x00", Born: 255}, {Code: strings.Repeat("\x00", 32), Born: 256},
	} {
		put(t, x, api.Accounts, addr(i), recordOf(a))
		want(t, fmt.Sprint("account ", i), account(Account(x, addr(i))), account(a, true, api.OK))
	}
	// Of any text that is asked for as an address.
	texts := []string{"", "\x00", addr(1)[:19], addr(1) + "\x00", addr(1) + addr(1), full(127), full(128), full(1000), strings.Repeat("a", 100000)}
	for _, a := range append(texts, addr(200)) {
		want(t, fmt.Sprintf("Account of %.60x", a), account(Account(x, a)), "none")
	}
	for i, a := range texts[:6] {
		put(t, x, api.Accounts, a, record(uint64(i), i))
		want(t, fmt.Sprintf("Account of %x", a), account(Account(x, a)), fmt.Sprintf("nonce %d balance  code  born %d", i, i))
	}
	// Other tables have nothing to do with it.
	for table := range 256 {
		if byte(table) != api.Accounts {
			put(t, x, byte(table), addr(99), record(1, 1))
		}
	}
	want(t, "an account of other tables", account(Account(x, addr(99))), "none")
}

// noRecords are bytes that are no account's record.
func noRecords() []string {
	r := record(1, 3)
	return []string{
		"", "\x00", "\xc0", "x", r + "\x00", r[:len(r)-1], "\xc3\x01\x80\x80", "\xc5\x01\x80\x80\x80\x03", "\xc4\x00\x80\x80\x03", "\xc4\x01\x00\x80\x03",
		"\xc4\x01\x80\x05\x03", "\xc4\x01\x80\x80\xc0", "\xc8\x01\x80\x80\x84\x80\x00\x00\x00", full(300),
	}
}

// P17.1: a record that is none is ErrStore.
func TestNoRecord(t *testing.T) {
	x := fresh(t)
	put(t, x, api.Slots, SlotKey(addr(1), 0, key(1)), "\x05")
	for _, s := range noRecords() {
		put(t, x, api.Accounts, addr(1), s)
		want(t, fmt.Sprintf("Account of a record %x", s), account(Account(x, addr(1))), "error 17")
		want(t, fmt.Sprintf("Value of a record %x", s), number(Value(x, addr(1), key(1))), "error 17")
		want(t, fmt.Sprintf("Slot beside a record %x", s), number(Slot(x, addr(1), 0, key(1))), "05")
		want(t, "another account", account(Account(x, addr(2))), "none")
	}
}

// P17.1: the number that stands in a slot, if one does.
func TestSlot(t *testing.T) {
	x := fresh(t)
	want(t, "Slot of an empty store", number(Slot(x, addr(1), 1, key(1))), "")
	put(t, x, api.Slots, addr(1)+"\x00\x00\x00\x01"+key(1), "\x05")
	put(t, x, api.Slots, addr(1)+"\x00\x00\x00\x02"+key(1), full(32))
	put(t, x, api.Slots, addr(1)+"\xff\xff\xff\xff"+key(1), "\x07")
	put(t, x, api.Slots, "a\x00\x00\x00\x00k", "\x08")
	put(t, x, api.Slots, "\x00\x00\x00\x09", "\x09")
	want(t, "born in 1", number(Slot(x, addr(1), 1, key(1))), "05")
	want(t, "born in 2", number(Slot(x, addr(1), 2, key(1))), fmt.Sprintf("%x", full(32)))
	want(t, "born in 2^32 - 1", number(Slot(x, addr(1), 1<<32-1, key(1))), "07")
	want(t, "born in -1", number(Slot(x, addr(1), -1, key(1))), "07")
	want(t, "born in 2^32 and one", number(Slot(x, addr(1), 1<<32+1, key(1))), "05")
	want(t, "short texts", number(Slot(x, "a", 0, "k")), "08")
	want(t, "empty texts", number(Slot(x, "", 9, "")), "09")
	want(t, "no account is needed, and none is there", account(Account(x, addr(1))), "none")
	for what, s := range map[string]string{
		"another birth":        number(Slot(x, addr(1), 3, key(1))),
		"block 0":              number(Slot(x, addr(1), 0, key(1))),
		"another key":          number(Slot(x, addr(1), 1, key(2))),
		"a key cut short":      number(Slot(x, addr(1), 1, key(1)[:31])),
		"a longer key":         number(Slot(x, addr(1), 1, key(1)+"\x00")),
		"no key":               number(Slot(x, addr(1), 1, "")),
		"another address":      number(Slot(x, addr(2), 1, key(1))),
		"a longer address":     number(Slot(x, addr(1)+"\x00", 1, key(1))),
		"an address cut short": number(Slot(x, addr(1)[:19], 1, key(1))),
		"very long texts":      number(Slot(x, strings.Repeat("a", 100000), 1, strings.Repeat("k", 100000))),
	} {
		want(t, what, s, "")
	}
}

// P17.1: the number of a slot of the account that is there now.
func TestValue(t *testing.T) {
	x := fresh(t)
	put(t, x, api.Slots, SlotKey(addr(1), 1, key(1)), "\x05")
	put(t, x, api.Slots, SlotKey(addr(1), 0, key(1)), "\x06")
	put(t, x, api.Slots, SlotKey(addr(1), 4, key(2)), "\x07")
	want(t, "no account", number(Value(x, addr(1), key(1))), "")
	put(t, x, api.Accounts, addr(1), record(9, 1))
	want(t, "an account", number(Value(x, addr(1), key(1))), "05")
	want(t, "another slot", number(Value(x, addr(1), key(2))), "")
	want(t, "another address", number(Value(x, addr(2), key(1))), "")
	put(t, x, api.Accounts, addr(1), record(9, 4))
	want(t, "an account that came anew", number(Value(x, addr(1), key(1))), "")
	want(t, "what it has", number(Value(x, addr(1), key(2))), "07")
	put(t, x, api.Accounts, addr(1), record(9, 0))
	want(t, "an account born in 0", number(Value(x, addr(1), key(1))), "06")
	want(t, "very long texts", number(Value(x, strings.Repeat("a", 100000), strings.Repeat("k", 100000))), "")
	want(t, "a very long key", number(Value(x, addr(1), strings.Repeat("k", 100000))), "")
	want(t, "no key", number(Value(x, addr(1), "")), "")
}

// P17.1: what the three tell as blocks are applied.
func TestAskedOfBlocks(t *testing.T) {
	x := fresh(t)
	apply(t, x, filled()...)
	want(t, "Account", account(Account(x, addr(1))), "nonce 3 balance  code  born 1")
	want(t, "Value that was put anew", number(Value(x, addr(1), key(1))), "15")
	want(t, "Value that was emptied", number(Value(x, addr(1), key(2))), "")
	want(t, "Value that stays", number(Value(x, addr(1), key(3))), "0d")
	want(t, "Value that came", number(Value(x, addr(1), key(4))), "18")
	want(t, "Slot that came later than its account", number(Slot(x, addr(2), 1, key(1))), "1f")
	apply(t, x, blockOf(3, anew(1, 7, 1, 9)))
	want(t, "Account that came anew", account(Account(x, addr(1))), "nonce 7 balance  code  born 3")
	want(t, "Value of it", number(Value(x, addr(1), key(1))), "09")
	want(t, "Value that it had", number(Value(x, addr(1), key(3))), "")
	want(t, "Slot that it had", number(Slot(x, addr(1), 1, key(3))), "")
	apply(t, x, blockOf(4, gone(1)))
	want(t, "Account that is gone", account(Account(x, addr(1))), "none")
	want(t, "Value of what is gone", number(Value(x, addr(1), key(1))), "")
	apply(t, x, blockOf(5, wrote(1, 0)))
	want(t, "Account that is there again", account(Account(x, addr(1))), "nonce 0 balance  code  born 5")
	want(t, "Value of what was gone", number(Value(x, addr(1), key(1))), "")
}
