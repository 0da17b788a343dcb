package plain

import (
	"fmt"
	"math"
	"slices"
	"strings"
	"testing"

	"loess/api"
	"loess/disk"
	"loess/kv"
	"loess/scalar"
)

func want[T comparable](t *testing.T, what string, got, want T) {
	t.Helper()
	if got != want {
		t.Errorf("%s:\n%.3000s, want\n%.3000s", what, fmt.Sprint(got), fmt.Sprint(want))
	}
}

func opened(t *testing.T, d *disk.Disk) *kv.Store {
	t.Helper()
	s, e := kv.Open(d)
	if e != api.OK {
		t.Fatalf("Open: error %d", e)
	}
	return s
}

func begun(t *testing.T, s *kv.Store) *kv.Tx {
	t.Helper()
	x, e := s.Begin()
	if e != api.OK {
		t.Fatalf("Begin: error %d", e)
	}
	return x
}

// fresh is a transaction of a new store.
func fresh(t *testing.T) *kv.Tx {
	t.Helper()
	return begun(t, opened(t, disk.New(4000)))
}

// addr is an address by its first byte, key a slot's key by its last one.
func addr(n int) string { return string([]byte{byte(n)}) + strings.Repeat("\xad", 19) }
func key(n int) string  { return strings.Repeat("\x5e", 31) + string([]byte{byte(n)}) }

// full is a number of so many bytes.
func full(size int) string { return strings.Repeat("\xff", size) }

// value is a number; 0: the empty one.
func value(n int) string { return scalar.Trim(string([]byte{byte(n >> 8), byte(n)})) }

// slots is Slots by their keys and values in turn.
func slots(keysAndValues ...int) []api.Slot {
	var l []api.Slot
	for i := 0; i < len(keysAndValues); i += 2 {
		l = append(l, api.Slot{Key: key(keysAndValues[i]), Value: value(keysAndValues[i+1])})
	}
	return l
}

// wrote is a Write of a nonce and slots.
func wrote(address, nonce int, keysAndValues ...int) api.Write {
	return api.Write{Addr: addr(address), Nonce: uint64(nonce), Slots: slots(keysAndValues...)}
}

// anew is one with Reset.
func anew(address, nonce int, keysAndValues ...int) api.Write {
	w := wrote(address, nonce, keysAndValues...)
	w.Reset = true
	return w
}

func gone(address int) api.Write { return api.Write{Addr: addr(address), Gone: true} }

func blockOf(number int, l ...api.Write) api.Block { return api.Block{Number: number, Writes: l} }

// apply applies blocks one behind the other.
func apply(t *testing.T, x *kv.Tx, l ...api.Block) {
	t.Helper()
	for _, b := range l {
		want(t, fmt.Sprint("Apply of block ", b.Number), Apply(x, b), api.OK)
	}
}

func undo(t *testing.T, x *kv.Tx, numbers ...int) {
	t.Helper()
	for _, n := range numbers {
		want(t, fmt.Sprint("Undo of ", n), Undo(x, n), api.OK)
	}
}

func put(t *testing.T, x *kv.Tx, table byte, k, v string) {
	t.Helper()
	want(t, "Put", x.Put(table, k, v), api.OK)
}

// record is that of an account of a nonce alone.
func record(nonce uint64, born int) string { return recordOf(api.Account{Nonce: nonce, Born: born}) }

func recordOf(a api.Account) string {
	s, e := scalar.Record(a)
	if e != api.OK {
		panic(e)
	}
	return s
}

// four is a number's four bytes, written down once more.
func four(n int) string {
	return string([]byte{byte(n / (1 << 24)), byte(n / (1 << 16)), byte(n / (1 << 8)), byte(n)})
}

// row is how a pair of a table is told in these tests.
func row(table byte, value string, parts ...string) string {
	return fmt.Sprintf("%02d %x: %x", table, strings.Join(parts, ""), value)
}

// The rows of the tables.
func accountRow(address int, record string) string {
	return row(api.Accounts, record, addr(address))
}
func slotRow(address, born, k, v int) string {
	return row(api.Slots, value(v), addr(address), four(born), key(k))
}
func accountChange(number, address int, old string) string {
	return row(api.AccountChanges, old, four(number), addr(address))
}
func slotChange(number, address, born, k, old int) string {
	return row(api.SlotChanges, value(old), four(number), addr(address), four(born), key(k))
}

// all is every pair of every table, in the order of their rows' texts.
func all(x *kv.Tx) string {
	var l []string
	for table := range 256 {
		pairs, e := x.Range(byte(table), "", "", math.MaxInt)
		if e != api.OK {
			return fmt.Sprint("error ", int(e))
		}
		for _, p := range pairs {
			l = append(l, row(byte(table), p.Value, p.Key))
		}
	}
	slices.Sort(l)
	return strings.Join(l, "\n")
}

// stands is that the tables have just these rows.
func stands(t *testing.T, what string, x *kv.Tx, rows ...string) {
	t.Helper()
	want(t, what, all(x), strings.Join(slices.Sorted(slices.Values(rows)), "\n"))
}

// account is what Account tells, as a text.
func account(a api.Account, ok bool, e api.Errno) string {
	if (e != api.OK || !ok) && a != (api.Account{}) || e != api.OK && ok {
		return fmt.Sprintf("%v %v beside error %d", a, ok, e)
	}
	if e != api.OK {
		return fmt.Sprint("error ", int(e))
	}
	if !ok {
		return "none"
	}
	return fmt.Sprintf("nonce %d balance %x code %x born %d", a.Nonce, a.Balance, a.Code, a.Born)
}

// number is what Slot and Value tell, as a text.
func number(v string, e api.Errno) string {
	if e != api.OK && v != "" {
		return fmt.Sprintf("%x beside error %d", v, e)
	}
	if e != api.OK {
		return fmt.Sprint("error ", int(e))
	}
	return fmt.Sprintf("%x", v)
}

// changes is what Changes tells, as a text.
func changes(l []api.Change, e api.Errno) string {
	if e != api.OK && l != nil {
		return fmt.Sprintf("%v beside error %d", l, e)
	}
	if e != api.OK {
		return fmt.Sprint("error ", int(e))
	}
	var s []string
	for _, c := range l {
		s = append(s, fmt.Sprintf("%x %d %x: %x", c.Addr, c.Born, c.Key, c.Old))
	}
	return strings.Join(s, "\n")
}

// changed is a change as changes tells it: of an account, and of a slot.
func changed(address int, old string) string { return fmt.Sprintf("%x 0 : %x", addr(address), old) }
func changedSlot(address, born, k, old int) string {
	return fmt.Sprintf("%x %d %x: %x", addr(address), born, key(k), value(old))
}

// calls is every call that has a transaction, as texts by names.
func calls(x *kv.Tx) map[string]func() string {
	failed := func(e api.Errno) string { return fmt.Sprint("error ", int(e)) }
	return map[string]func() string{
		"Account":                func() string { return account(Account(x, addr(1))) },
		"Account of nothing":     func() string { return account(Account(x, "")) },
		"Slot":                   func() string { return number(Slot(x, addr(1), 1, key(1))) },
		"Value":                  func() string { return number(Value(x, addr(1), key(1))) },
		"Apply":                  func() string { return failed(Apply(x, blockOf(5, wrote(1, 5, 1, 5), gone(2)))) },
		"Apply without Writes":   func() string { return failed(Apply(x, blockOf(5))) },
		"Apply with Reset":       func() string { return failed(Apply(x, blockOf(5, anew(1, 5, 2, 7)))) },
		"Undo":                   func() string { return failed(Undo(x, 2)) },
		"Undo of none":           func() string { return failed(Undo(x, 77)) },
		"Changes":                func() string { return changes(Changes(x, 2)) },
		"Changes of no block":    func() string { return changes(Changes(x, -1)) },
		"Changes of block 2^32":  func() string { return changes(Changes(x, 1<<32)) },
		"Account of a long text": func() string { return account(Account(x, full(500))) },
		"Slot of a long text":    func() string { return number(Slot(x, full(500), 1, full(500))) },
	}
}

// filled is two accounts, with slots and without, in two blocks.
func filled() []api.Block {
	return []api.Block{
		blockOf(1, wrote(1, 1, 1, 11, 2, 12, 3, 13), wrote(2, 2)),
		blockOf(2, wrote(1, 3, 1, 21, 2, 0, 4, 24), wrote(2, 4, 1, 31)),
	}
}
