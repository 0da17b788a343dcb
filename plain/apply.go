package plain

import (
	"loess/api"
	"loess/block"
	"loess/kv"
	"loess/scalar"
)

// turn is what becomes of what stands in a table under a key: another text; empty: nothing.
type turn struct {
	table     byte
	key, text string
}

// put has the turn's text stand there.
func (t turn) put(x *kv.Tx) api.Errno {
	if t.text == "" {
		_, e := x.Delete(t.table, t.key)
		return e
	}
	return x.Put(t.table, t.key, t.text)
}

// keep has what stands there now among a block's changes.
func (t turn) keep(x *kv.Tx, number int) api.Errno {
	old, _, e := x.Get(t.table, t.key)
	if e != api.OK {
		return e
	}
	changes := api.AccountChanges
	if t.table == api.Slots {
		changes = api.SlotChanges
	}
	return x.Put(changes, joined(Number(number), t.key), old)
}

// Apply has a block's writes stand in the tables, and what stood there ahead of them in those of its changes. All is read ahead of the first change, so that a record that is none leaves the tables as they were; and all is kept ahead of what is put, so that of a slot that is emptied and written in one, what stood there ahead of both is kept.
func Apply(x *kv.Tx, b api.Block) api.Errno {
	if e := block.Check(b); e != api.OK {
		return e
	}
	l, e := turnsOf(x, b)
	if e != api.OK {
		return e
	}
	e = each(l, func(t turn) api.Errno { return t.keep(x, b.Number) })
	if e != api.OK {
		return e
	}
	return each(l, func(t turn) api.Errno { return t.put(x) })
}

// turnsOf is what a block makes of the tables.
func turnsOf(x *kv.Tx, b api.Block) ([]turn, api.Errno) {
	// A block without Writes asks for nothing that would tell whether the transaction is open.
	if _, e := x.Range(api.Accounts, "", "", 0); e != api.OK {
		return nil, e
	}
	var l []turn
	e := each(b.Writes, func(w api.Write) api.Errno {
		more, e := turnsOfWrite(x, w, b.Number)
		l = append(l, more...)
		return e
	})
	return l, e
}

func turnsOfWrite(x *kv.Tx, w api.Write, number int) ([]turn, api.Errno) {
	had, was, e := Account(x, w.Addr)
	if e != api.OK {
		return nil, e
	}
	var l []turn
	if was && (w.Gone || w.Reset) {
		l, e = emptied(x, w.Addr, had.Born)
		if e != api.OK {
			return nil, e
		}
	}
	a, is := block.Account(w, had, was, number)
	if !is {
		return append(l, turn{table: api.Accounts, key: w.Addr}), api.OK
	}
	record, e := scalar.Record(a)
	l = append(l, turn{api.Accounts, w.Addr, record})
	for _, s := range w.Slots {
		l = append(l, turn{api.Slots, SlotKey(w.Addr, a.Born, s.Key), s.Value})
	}
	return l, e
}

// emptied is that nothing stands any more in all slots of an account. A key of another size is none of its slots': a longer address may begin with the same bytes.
func emptied(x *kv.Tx, addr string, born int) ([]turn, api.Errno) {
	all, e := under(x, api.Slots, SlotKey(addr, born, ""))
	var l []turn
	for _, p := range all {
		if len(p.Key) == slotSize {
			l = append(l, turn{table: api.Slots, key: p.Key})
		}
	}
	return l, e
}
