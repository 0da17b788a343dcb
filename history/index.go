package history

import (
	"slices"

	"loess/api"
	"loess/kv"
	"loess/plain"
	"loess/shard"
)

// turn is what becomes of a key's chunks: from the first one on that doesn't stay, those that were and those that are to be.
type turn struct {
	index   byte
	key     string
	had, is []api.Chunk
}

// Index puts a block into the sets of all that it changed.
func Index(x *kv.Tx, number int) api.Errno { return change(x, number, shard.Append) }

// Unindex takes all blocks from a number on out of the sets of all that the block of that number changed.
func Unindex(x *kv.Tx, number int) api.Errno { return change(x, number, shard.Cut) }

// change has all keys that a block changed have other chunks. What these are is made of all of them ahead of the first change, so that sets which can't be changed leave the tables as they were.
func change(x *kv.Tx, number int, other func(l []api.Chunk, n int) ([]api.Chunk, api.Errno)) api.Errno {
	changes, e := plain.Changes(x, number)
	if e != api.OK {
		return e
	}
	var l []turn
	told := api.OK
	for _, c := range changes {
		index, key := place(c)
		had, e := chunks(x, index, key)
		if e != api.OK {
			return e
		}
		is, e := other(had, number)
		switch e {
		case api.OK:
			l = append(l, turnOf(index, key, had, is))
		case api.ErrForm:
			told = api.ErrStore // another key's set may say ErrArg, which comes first
		default:
			return e
		}
	}
	if told != api.OK {
		return told
	}
	for _, t := range l {
		if e := t.put(x); e != api.OK {
			return e
		}
	}
	return api.OK
}

// place is the index that a change belongs into, and the key that it has there.
func place(c api.Change) (byte, string) {
	if c.Key == "" {
		return kinds[accounts].index, c.Addr
	}
	return kinds[slots].index, plain.SlotKey(c.Addr, c.Born, c.Key)
}

// turnOf leaves out the chunks that stay as they are.
func turnOf(index byte, key string, had, is []api.Chunk) turn {
	stay := 0
	for stay < min(len(had), len(is)) && had[stay] == is[stay] {
		stay++
	}
	return turn{index, key, had[stay:], is[stay:]}
}

// put deletes the chunks that are no more, and has the others stand there.
func (t turn) put(x *kv.Tx) api.Errno {
	for _, c := range t.had {
		if slices.ContainsFunc(t.is, func(o api.Chunk) bool { return o.Upper == c.Upper }) {
			continue
		}
		if _, e := x.Delete(t.index, t.rowKey(c)); e != api.OK {
			return e
		}
	}
	for _, c := range t.is {
		if e := x.Put(t.index, t.rowKey(c), c.Data); e != api.OK {
			return e
		}
	}
	return api.OK
}

// rowKey is the key of a chunk's pair.
func (t turn) rowKey(c api.Chunk) string { return joined(t.key, plain.Number(c.Upper)) }
