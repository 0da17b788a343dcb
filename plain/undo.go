package plain

import (
	"loess/api"
	"loess/kv"
)

// tablesOfChanges is those that have what stood there ahead of each block, in the order in which it is told.
func tablesOfChanges() []byte { return []byte{api.AccountChanges, api.SlotChanges} }

// Changes is what a block changed: accounts, and then slots.
func Changes(x *kv.Tx, number int) ([]api.Change, api.Errno) {
	var l []api.Change
	e := each(tablesOfChanges(), func(table byte) api.Errno {
		rows, e := under(x, table, Number(number))
		if e != api.OK {
			return e
		}
		return each(rows, func(p api.Pair) api.Errno {
			c, e := changeOf(table, p)
			l = append(l, c)
			return e
		})
	})
	if e != api.OK {
		return nil, e
	}
	return l, api.OK
}

// changeOf is the change that a row of a table is; ErrStore of one that is too short to name a slot.
func changeOf(table byte, row api.Pair) (api.Change, api.Errno) {
	key := row.Key[numberSize:]
	if table == api.AccountChanges {
		return api.Change{Addr: key, Old: row.Value}, api.OK
	}
	if len(key) <= bornSize {
		return api.Change{}, api.ErrStore
	}
	born := numberOf(key[api.AddrSize:bornSize])
	return api.Change{Addr: key[:api.AddrSize], Born: born, Key: key[bornSize:], Old: row.Value}, api.OK
}

// Undo has all that a block changed be as it was, and forgets the block's changes.
func Undo(x *kv.Tx, number int) api.Errno {
	l, e := Changes(x, number)
	if e != api.OK {
		return e
	}
	e = each(l, func(c api.Change) api.Errno { return back(c).put(x) })
	if e != api.OK {
		return e
	}
	return each(tablesOfChanges(), func(table byte) api.Errno {
		_, e := x.Clear(table, Number(number))
		return e
	})
}

// back is the turn to what a change says there was.
func back(c api.Change) turn {
	if c.Key == "" {
		return turn{api.Accounts, c.Addr, c.Old}
	}
	return turn{api.Slots, SlotKey(c.Addr, c.Born, c.Key), c.Old}
}
