package kv

import (
	"iter"
	"strings"

	"loess/api"
)

const (
	lastTable = 255
	maxItem   = 125 // bytes of a key and an item together
)

// Tx is a transaction of a store.
type Tx struct {
	*Store
}

// ended is whether it is not open.
func (x *Tx) ended() bool {
	return x == nil || x.Store == nil || x.Store.open != x
}

// joined is a key that begins with a byte, and has these parts behind it.
func joined(first byte, parts ...string) string {
	return string([]byte{first}) + strings.Join(parts, "")
}

// Get is the value of a key, and whether there is one.
func (x *Tx) Get(table byte, key string) (string, bool, api.Errno) {
	if x.ended() {
		return "", false, api.ErrState
	}
	return x.tree.Get(joined(table, key))
}

// Put makes the pair be there. Of keys that are too long the tree tells: the table's byte is one of its keys' 128.
func (x *Tx) Put(table byte, key, value string) api.Errno {
	if x.ended() {
		return api.ErrState
	}
	return x.tree.Put(joined(table, key), value)
}

// Delete makes the pair be there no more, and is whether it was.
func (x *Tx) Delete(table byte, key string) (bool, api.Errno) {
	if x.ended() {
		return false, api.ErrState
	}
	return x.tree.Delete(joined(table, key))
}

// Seek is the table's first pair whose key is not below key.
func (x *Tx) Seek(table byte, key string) (api.Pair, bool, api.Errno) {
	if x.ended() {
		return api.Pair{}, false, api.ErrState
	}
	k, v, ok, e := x.tree.Seek(joined(table, key))
	return own(table, k, v, ok, e)
}

// Before is the table's last pair whose key is below key.
func (x *Tx) Before(table byte, key string) (api.Pair, bool, api.Errno) {
	if x.ended() {
		return api.Pair{}, false, api.ErrState
	}
	k, v, ok, e := x.tree.Before(joined(table, key))
	return own(table, k, v, ok, e)
}

// Last is the table's last pair.
func (x *Tx) Last(table byte) (api.Pair, bool, api.Errno) {
	if x.ended() {
		return api.Pair{}, false, api.ErrState
	}
	if table == lastTable {
		k, v, ok, e := x.tree.Last()
		return own(table, k, v, ok, e)
	}
	k, v, ok, e := x.tree.Before(joined(table + 1))
	return own(table, k, v, ok, e)
}

// own is a pair that the tree has told, as the table has it; none, if it is another table's.
func own(table byte, key, value string, ok bool, e api.Errno) (api.Pair, bool, api.Errno) {
	short, its := strings.CutPrefix(key, joined(table))
	if e != api.OK || !ok || !its {
		return api.Pair{}, false, e
	}
	return api.Pair{Key: short, Value: value}, true, api.OK
}

// pairs goes over a table's pairs from a key on, as long as their keys are within. Each is looked for anew, so that the one that was told may be deleted meanwhile. An error is told beside no pair, and is the last.
func (x *Tx) pairs(table byte, from string, within func(key string) bool) iter.Seq2[api.Pair, api.Errno] {
	return func(yield func(api.Pair, api.Errno) bool) {
		next := from
		for {
			p, ok, e := x.Seek(table, next)
			if e != api.OK {
				yield(p, e)
				return
			}
			if !ok || !within(p.Key) || !yield(p, api.OK) {
				return
			}
			next = p.Key + "\x00"
		}
	}
}

// under goes over a table's pairs whose keys begin with a prefix.
func (x *Tx) under(table byte, prefix string) iter.Seq2[api.Pair, api.Errno] {
	return x.pairs(table, prefix, func(key string) bool { return strings.HasPrefix(key, prefix) })
}

// Range is the table's pairs of keys from one on, to below another one (empty: without an end), at most so many.
func (x *Tx) Range(table byte, from, to string, most int) ([]api.Pair, api.Errno) {
	if x.ended() {
		return nil, api.ErrState
	}
	if most < 1 {
		return nil, api.OK
	}
	var l []api.Pair
	for p, e := range x.pairs(table, from, func(key string) bool { return to == "" || key < to }) {
		if e != api.OK {
			return nil, e
		}
		l = append(l, p)
		if len(l) == most {
			break
		}
	}
	return l, api.OK
}

// Clear deletes the table's pairs whose keys begin with a prefix, and is how many these were.
func (x *Tx) Clear(table byte, prefix string) (int, api.Errno) {
	count := 0
	for p, e := range x.under(table, prefix) {
		if e == api.OK {
			_, e = x.Delete(table, p.Key)
		}
		if e != api.OK {
			return 0, e
		}
		count++
	}
	return count, api.OK
}

// itemKey is the key of the pair of an item; with an empty item it is what those of all items of a key begin with. The length ahead keeps them apart from items of a key that begins alike (one that no byte tells is longer than any key of a table).
func itemKey(key, item string) string {
	return joined(byte(len(key)), key, item)
}

// Add has an item stand with a key.
func (x *Tx) Add(table byte, key, item string) api.Errno {
	if x.ended() {
		return api.ErrState
	}
	if len(key)+len(item) > maxItem {
		return api.ErrSize
	}
	return x.Put(table, itemKey(key, item), "")
}

// Items is all items that stand with a key.
func (x *Tx) Items(table byte, key string) ([]string, api.Errno) {
	var l []string
	prefix := itemKey(key, "")
	for p, e := range x.under(table, prefix) {
		if e != api.OK {
			return nil, e
		}
		l = append(l, p.Key[len(prefix):])
	}
	return l, api.OK
}

// Remove has an item stand with a key no more, and is whether it did.
func (x *Tx) Remove(table byte, key, item string) (bool, api.Errno) {
	return x.Delete(table, itemKey(key, item))
}

// Commit has all of it last, and ends it.
func (x *Tx) Commit() api.Errno {
	if x.ended() {
		return api.ErrState
	}
	e := x.tree.Commit()
	if e != api.OK {
		x.tree.Rollback()
		x.failed = true
	}
	x.Store.open = nil
	return e
}

// Rollback takes all of it back, and ends it.
func (x *Tx) Rollback() {
	if x.ended() {
		return
	}
	x.tree.Rollback()
	x.Store.open = nil
}
