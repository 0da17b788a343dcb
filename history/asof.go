package history

import (
	"loess/api"
	"loess/kv"
	"loess/plain"
	"loess/scalar"
)

// old is what stood under a key behind a block, if a later one changed it; false: it stands there still.
func old(x *kv.Tx, k kind, key string, number int) (string, bool, api.Errno) {
	if number < 0 || number >= api.MaxBlock {
		return "", false, api.ErrArg
	}
	n, ok, e := Next(x, k.index, key, number+1)
	if e != api.OK || !ok {
		return "", false, e
	}
	text, ok, e := x.Get(k.changes, joined(plain.Number(n), key))
	if e == api.OK && !ok {
		e = api.ErrStore
	}
	return text, ok, e
}

// AccountAt is the account that an address had behind a block, and whether there was one.
func AccountAt(x *kv.Tx, addr string, number int) (api.Account, bool, api.Errno) {
	record, changed, e := old(x, kinds[accounts], addr, number)
	if e != api.OK {
		return api.Account{}, false, e
	}
	if !changed {
		return plain.Account(x, addr)
	}
	if record == "" {
		return api.Account{}, false, api.OK
	}
	a, e := scalar.Read(record)
	if e != api.OK {
		return api.Account{}, false, api.ErrStore
	}
	return a, true, api.OK
}

// SlotAt is the number that stood behind a block in a slot of the account that was born in another one.
func SlotAt(x *kv.Tx, addr string, born int, key string, number int) (string, api.Errno) {
	value, changed, e := old(x, kinds[slots], plain.SlotKey(addr, born, key), number)
	if e != api.OK {
		return "", e
	}
	if !changed {
		return plain.Slot(x, addr, born, key)
	}
	return value, api.OK
}

// ValueAt is the number that stood behind a block in a slot of the account that there was then.
func ValueAt(x *kv.Tx, addr, key string, number int) (string, api.Errno) {
	a, ok, e := AccountAt(x, addr, number)
	if !ok {
		return "", e
	}
	return SlotAt(x, addr, a.Born, key, number)
}
