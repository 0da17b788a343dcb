package history

import (
	"encoding/hex"
	"fmt"
	"math"
	"slices"
	"strings"
	"testing"

	"loess/api"
	"loess/disk"
	"loess/kv"
	"loess/plain"
	"loess/scalar"
)

func want[T comparable](t *testing.T, what string, got, want T) {
	t.Helper()
	if got != want {
		t.Errorf("%s:\n%.3000s, want\n%.3000s", what, fmt.Sprint(got), fmt.Sprint(want))
	}
}

func unhex(digits string) string {
	b, err := hex.DecodeString(strings.ReplaceAll(digits, " ", ""))
	if err != nil {
		panic(err)
	}
	return string(b)
}

func opened(t *testing.T, d *disk.Disk) *kv.Store {
	t.Helper()
	s, e := kv.Open(d)
	if e != api.OK {
		t.Fatalf("Open: error %d", e)
	}
	return s
}

func begun(t *testing.T, s *kv.Store) *kv.Tx {
	t.Helper()
	x, e := s.Begin()
	if e != api.OK {
		t.Fatalf("Begin: error %d", e)
	}
	return x
}

// fresh is a transaction of a new store.
func fresh(t *testing.T) *kv.Tx {
	t.Helper()
	return begun(t, opened(t, disk.New(8000)))
}

// addr is an address by its first byte, key a slot's key by its last one.
func addr(n int) string { return string([]byte{byte(n)}) + strings.Repeat("\xad", 19) }
func key(n int) string  { return strings.Repeat("\x5e", 31) + string([]byte{byte(n)}) }

// value is a number; 0: the empty one.
func value(n int) string { return scalar.Trim(string([]byte{byte(n >> 8), byte(n)})) }

// slot is the key of a slot in the tables, written down once more.
func slot(address, born, k int) string { return addr(address) + four(born) + key(k) }

// wrote is a Write of a nonce and slots, by their keys and values in turn.
func wrote(address, nonce int, keysAndValues ...int) api.Write {
	w := api.Write{Addr: addr(address), Nonce: uint64(nonce)}
	for i := 0; i < len(keysAndValues); i += 2 {
		w.Slots = append(w.Slots, api.Slot{Key: key(keysAndValues[i]), Value: value(keysAndValues[i+1])})
	}
	return w
}

// anew is one with Reset.
func anew(address, nonce int, keysAndValues ...int) api.Write {
	w := wrote(address, nonce, keysAndValues...)
	w.Reset = true
	return w
}

func gone(address int) api.Write { return api.Write{Addr: addr(address), Gone: true} }

func blockOf(number int, l ...api.Write) api.Block { return api.Block{Number: number, Writes: l} }

// follow applies blocks and indexes each.
func follow(t *testing.T, x *kv.Tx, l ...api.Block) {
	t.Helper()
	for _, b := range l {
		want(t, fmt.Sprint("Apply of block ", b.Number), plain.Apply(x, b), api.OK)
		want(t, fmt.Sprint("Index of ", b.Number), Index(x, b.Number), api.OK)
	}
}

// back takes blocks out of the index, and undoes them.
func back(t *testing.T, x *kv.Tx, numbers ...int) {
	t.Helper()
	for _, n := range numbers {
		want(t, fmt.Sprint("Unindex of ", n), Unindex(x, n), api.OK)
		want(t, fmt.Sprint("Undo of ", n), plain.Undo(x, n), api.OK)
	}
}

func put(t *testing.T, x *kv.Tx, table byte, k, v string) {
	t.Helper()
	want(t, "Put", x.Put(table, k, v), api.OK)
}

func remove(t *testing.T, x *kv.Tx, table byte, k string) {
	t.Helper()
	ok, e := x.Delete(table, k)
	want(t, "Delete", fmt.Sprint(ok, e), fmt.Sprint(true, api.OK))
}

// noted has blocks stand in the changes of a table as if each had changed the key, and indexes them.
func noted(t *testing.T, x *kv.Tx, changes byte, k string, numbers ...int) {
	t.Helper()
	for _, n := range numbers {
		put(t, x, changes, four(n)+k, "")
		want(t, fmt.Sprint("Index of ", n), Index(x, n), api.OK)
	}
}

// count is so many numbers from first on, each so far behind the one ahead of it.
func count(first, many, step int) []int {
	var l []int
	for i := range many {
		l = append(l, first+i*step)
	}
	return l
}

// record is that of an account of a nonce alone.
func record(nonce, born int) string {
	s, e := scalar.Record(api.Account{Nonce: uint64(nonce), Born: born})
	if e != api.OK {
		panic(e)
	}
	return s
}

// four is a number's four bytes, written down once more.
func four(n int) string {
	return string([]byte{byte(n / (1 << 24)), byte(n / (1 << 16)), byte(n / (1 << 8)), byte(n)})
}

// pair is how a pair of a table is told in these tests; rowOf is that of a chunk, by its key, its Upper and the bytes of its Data.
func pair(table byte, k, v string) string { return fmt.Sprintf("%02d %x: %x", table, k, v) }
func rowOf(table byte, k string, upper int, data string) string {
	return pair(table, k+four(upper), unhex(data))
}

// pairs is every pair of these tables, in the order of their texts.
func pairs(x *kv.Tx, tables ...byte) string {
	var l []string
	for _, table := range tables {
		all, e := x.Range(table, "", "", math.MaxInt)
		if e != api.OK {
			return fmt.Sprint("error ", int(e))
		}
		for _, p := range all {
			l = append(l, pair(table, p.Key, p.Value))
		}
	}
	slices.Sort(l)
	return strings.Join(l, "\n")
}

// every is every pair of every table.
func every(x *kv.Tx) string {
	tables := make([]byte, 256)
	for table := range tables {
		tables[table] = byte(table)
	}
	return pairs(x, tables...)
}

// indexed is that the indexes have just these rows.
func indexed(t *testing.T, what string, x *kv.Tx, l ...string) {
	t.Helper()
	want(t, what, pairs(x, api.AccountIndex, api.SlotIndex), strings.Join(slices.Sorted(slices.Values(l)), "\n"))
}

// failed is what a call tells, as a text, that tells an error alone.
func failed(e api.Errno) string {
	if e == api.OK {
		return "ok"
	}
	return fmt.Sprint("error ", int(e))
}

// account is what AccountAt tells, as a text.
func account(a api.Account, ok bool, e api.Errno) string {
	switch {
	case (e != api.OK || !ok) && a != (api.Account{}) || e != api.OK && ok:
		return fmt.Sprintf("%v %v beside error %d", a, ok, e)
	case e != api.OK:
		return failed(e)
	case !ok:
		return "none"
	case a.Balance != "" || a.Code != "":
		return fmt.Sprintf("%d born %d: %x %x", a.Nonce, a.Born, a.Balance, a.Code)
	}
	return fmt.Sprintf("%d born %d", a.Nonce, a.Born)
}

// number is what SlotAt and ValueAt tell, as a text.
func number(v string, e api.Errno) string {
	if e != api.OK && v != "" {
		return fmt.Sprintf("%x beside error %d", v, e)
	}
	if e != api.OK {
		return failed(e)
	}
	return fmt.Sprintf("%x", v)
}

// list is what Blocks tells, as a text.
func list(l []int, e api.Errno) string {
	if e != api.OK && l != nil {
		return fmt.Sprintf("%v beside error %d", l, e)
	}
	if e != api.OK {
		return failed(e)
	}
	return fmt.Sprint(l)
}

// found is what Next tells, as a text.
func found(n int, ok bool, e api.Errno) string {
	switch {
	case !ok && n != 0 || e != api.OK && ok:
		return fmt.Sprintf("%d %v beside error %d", n, ok, e)
	case e != api.OK:
		return failed(e)
	case !ok:
		return "none"
	}
	return fmt.Sprint(n)
}

// The calls as of a block, as texts.
func accountAt(x *kv.Tx, address, n int) string { return account(AccountAt(x, addr(address), n)) }
func slotAt(x *kv.Tx, address, born, k, n int) string {
	return number(SlotAt(x, addr(address), born, key(k), n))
}
func valueAt(x *kv.Tx, address, k, n int) string { return number(ValueAt(x, addr(address), key(k), n)) }

// told is that a call tells these texts one behind the other, as of the numbers from first on.
func told(t *testing.T, what string, first int, call func(n int) string, l ...string) {
	t.Helper()
	for i, text := range l {
		want(t, fmt.Sprint(what, " as of ", first+i), call(first+i), text)
	}
}

// calls is every call that has a transaction, as texts by names.
func calls(x *kv.Tx) map[string]func() string {
	long := strings.Repeat("\xff", 500)
	return map[string]func() string{
		"Index":                   func() string { return failed(Index(x, 300)) },
		"Index of nothing":        func() string { return failed(Index(x, 777)) },
		"Index of no block":       func() string { return failed(Index(x, -1)) },
		"Unindex":                 func() string { return failed(Unindex(x, 210)) },
		"Unindex of several":      func() string { return failed(Unindex(x, 90)) },
		"Unindex of nothing":      func() string { return failed(Unindex(x, 777)) },
		"Blocks":                  func() string { return list(Blocks(x, api.AccountIndex, addr(1))) },
		"Blocks of a slot":        func() string { return list(Blocks(x, api.SlotIndex, slot(1, 1, 1))) },
		"Blocks of none":          func() string { return list(Blocks(x, api.SlotIndex, "")) },
		"Blocks of a long text":   func() string { return list(Blocks(x, api.SlotIndex, long)) },
		"Next":                    func() string { return found(Next(x, api.AccountIndex, addr(1), 70)) },
		"Next from below 0":       func() string { return found(Next(x, api.AccountIndex, addr(1), math.MinInt)) },
		"Next from above all":     func() string { return found(Next(x, api.AccountIndex, addr(1), math.MaxInt)) },
		"Next of a long text":     func() string { return found(Next(x, api.AccountIndex, long, 5)) },
		"AccountAt":               func() string { return accountAt(x, 1, 70) },
		"AccountAt of the last":   func() string { return accountAt(x, 1, 210) },
		"AccountAt of none":       func() string { return account(AccountAt(x, "", 5)) },
		"AccountAt of a long one": func() string { return account(AccountAt(x, long, 5)) },
		"SlotAt":                  func() string { return slotAt(x, 1, 1, 1, 70) },
		"SlotAt of the last":      func() string { return slotAt(x, 1, 1, 1, 210) },
		"SlotAt of a long one":    func() string { return number(SlotAt(x, long, -1, long, 5)) },
		"ValueAt":                 func() string { return valueAt(x, 1, 1, 70) },
		"ValueAt of the last":     func() string { return valueAt(x, 1, 1, 210) },
		"ValueAt of none":         func() string { return valueAt(x, 99, 1, 70) },
	}
}
