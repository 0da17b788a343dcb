package history

import (
	"fmt"
	"maps"
	"math"
	"math/rand"
	"slices"
	"strings"
	"testing"

	"loess/api"
	"loess/kv"
	"loess/plain"
)

// The rules of the chapter once more, by its own words: a state is kept behind each block, and a set is a rising list of numbers.

// place is a slot of the account that was born in a block.
type spot struct {
	addr string
	born int
	key  string
}

// state is what there is behind a block.
type state struct {
	accounts map[string]api.Account
	values   map[spot]string
}

func (m state) clone() state { return state{maps.Clone(m.accounts), maps.Clone(m.values)} }

// behind is the state that a block makes.
func (m state) behind(b api.Block) state {
	is := m.clone()
	for _, w := range b.Writes {
		had, was := m.accounts[w.Addr]
		if w.Gone || w.Reset {
			maps.DeleteFunc(is.values, func(at spot, _ string) bool { return at.addr == w.Addr })
		}
		delete(is.accounts, w.Addr)
		if w.Gone {
			continue
		}
		now := api.Account{Nonce: w.Nonce, Balance: w.Balance, Code: w.Code, Born: b.Number}
		if was && !w.Reset {
			now.Born = had.Born
		}
		is.accounts[w.Addr] = now
		for _, s := range w.Slots {
			at := spot{w.Addr, now.Born, s.Key}
			delete(is.values, at)
			if s.Value != "" {
				is.values[at] = s.Value
			}
		}
	}
	return is
}

// touched is the keys that a block changes, those of accounts and those of slots.
func (m state) touched(b api.Block) (map[string]bool, map[string]bool) {
	is := m.behind(b)
	accounts, slots := map[string]bool{}, map[string]bool{}
	for _, w := range b.Writes {
		accounts[w.Addr] = true
		if w.Gone || w.Reset {
			for at := range m.values {
				if at.addr == w.Addr {
					slots[at.addr+four(at.born)+at.key] = true
				}
			}
		}
		for _, s := range w.Slots {
			slots[w.Addr+four(is.accounts[w.Addr].Born)+s.Key] = true
		}
	}
	return accounts, slots
}

// sets are the numbers of each key, rising.
type sets map[string][]int

func (m sets) add(keys map[string]bool, n int) {
	for k := range keys {
		m[k] = append(m[k], n)
	}
}

func (m sets) cut(keys map[string]bool, from int) {
	for k := range keys {
		m[k] = slices.DeleteFunc(m[k], func(n int) bool { return n >= from })
	}
}

// rows is what an index has of these sets: each 64 numbers are a chunk, by the greatest of them, the last ones by MaxBlock.
func (m sets) rows(index byte) []string {
	var l []string
	for k, numbers := range m {
		if len(numbers) > 0 {
			l = append(l, chunked(index, k, numbers)...)
		}
	}
	slices.Sort(l)
	return l
}

// someValue is a number of a slot by chance, often empty.
func someValue(r *rand.Rand) string {
	return strings.Repeat(string([]byte{byte(1 + r.Intn(255))}), r.Intn(3))
}

func someWrite(r *rand.Rand, address int) api.Write {
	if r.Intn(5) == 0 {
		return gone(address)
	}
	w := api.Write{Addr: addr(address), Reset: r.Intn(5) == 0, Nonce: uint64(r.Intn(300)), Balance: someValue(r)}
	for k := range 3 {
		if r.Intn(2) == 0 {
			w.Slots = append(w.Slots, api.Slot{Key: key(k), Value: someValue(r)})
		}
	}
	return w
}

func someBlock(r *rand.Rand, number int) api.Block {
	b := api.Block{Number: number}
	for a := range 3 {
		if r.Intn(4) < 3-a {
			b.Writes = append(b.Writes, someWrite(r, a))
		}
	}
	return b
}

// chain is blocks one behind the other, with the states: states[i] is that ahead of blocks[i].
type chain struct {
	blocks []api.Block
	states []state
	now    state
}

// at is the state as of a number.
func (c *chain) at(n int) state {
	for i, b := range c.blocks {
		if b.Number > n {
			return c.states[i]
		}
	}
	return c.now
}

func (c *chain) add(b api.Block) {
	c.blocks, c.states, c.now = append(c.blocks, b), append(c.states, c.now), c.now.behind(b)
}

func (c *chain) take() (api.Block, state) {
	last := len(c.blocks) - 1
	b := c.blocks[last]
	c.now = c.states[last]
	c.blocks, c.states = c.blocks[:last], c.states[:last]
	return b, c.now
}

// asOf holds what the calls tell as of a number against the state behind it.
func asOf(t *testing.T, what string, x *kv.Tx, c *chain, n int, births ...int) {
	t.Helper()
	m := c.at(n)
	for a := range 4 {
		was, ok := m.accounts[addr(a)]
		want(t, what+", AccountAt", accountAt(x, a, n), account(was, ok, api.OK))
		for k := range 4 {
			want(t, what+", ValueAt", valueAt(x, a, k, n), fmt.Sprintf("%x", m.values[spot{addr(a), was.Born, key(k)}]))
			for _, born := range births {
				want(t, what+", SlotAt", slotAt(x, a, born, k, n), fmt.Sprintf("%x", m.values[spot{addr(a), born, key(k)}]))
			}
		}
	}
}

// P18.1 to P18.4: blocks by chance, indexed one behind the other and taken out again, hold what the rules say as of every number.
func TestByChance(t *testing.T) {
	for seed := range 12 {
		r := rand.New(rand.NewSource(int64(seed)))
		x := fresh(t)
		c := &chain{now: state{map[string]api.Account{}, map[spot]string{}}}
		accounts, slots := sets{}, sets{}
		next := 1 + r.Intn(2)*200
		for step := range 260 {
			what := fmt.Sprint("seed ", seed, ", step ", step)
			if r.Intn(6) > 0 || len(c.blocks) == 0 {
				b := someBlock(r, next)
				follow(t, x, b)
				a, s := c.now.touched(b)
				accounts.add(a, next)
				slots.add(s, next)
				c.add(b)
				next += 1 + r.Intn(2)
			} else {
				b, m := c.take()
				next = b.Number
				back(t, x, next)
				a, s := m.touched(b)
				accounts.cut(a, next)
				slots.cut(s, next)
			}
			if step%20 == 19 {
				want(t, what+", the rows", pairs(x, api.AccountIndex, api.SlotIndex), strings.Join(append(accounts.rows(api.AccountIndex), slots.rows(api.SlotIndex)...), "\n"))
				for range 10 {
					n := r.Intn(next + 3)
					asOf(t, fmt.Sprint(what, ", as of ", n), x, c, n, 1, r.Intn(next), r.Intn(next))
				}
			}
		}
		for n := range next + 5 {
			asOf(t, fmt.Sprint("seed ", seed, ", as of ", n), x, c, n, n)
		}
		for len(c.blocks) > 0 {
			b, _ := c.take()
			back(t, x, b.Number)
		}
		want(t, fmt.Sprint("seed ", seed, ", all taken out"), every(x), "")
	}
}

// someKeys are keys of all sizes, of which many begin with others.
func someKeys() []string {
	l := []string{"", "\x00", "\x00\x00\x00\x05", "\x7f\xff\xff\xff", "\xff", "\xff\xff\xff\xff\xff"}
	for size := range 7 {
		l = append(l, "a"+strings.Repeat("\x00", size), "a"+strings.Repeat("\x7f", size), "a"+strings.Repeat("\xff", size))
	}
	return l
}

// ruleIndex is what Index or Unindex of a number do with the sets of the keys that its block changed.
func ruleIndex(m sets, keys map[string]bool, n int, un bool) api.Errno {
	if un {
		m.cut(keys, n)
		return api.OK
	}
	for k := range keys {
		if l := m[k]; n < 0 || n > api.MaxBlock || len(l) > 0 && slices.Max(l) >= n {
			return api.ErrArg
		}
	}
	m.add(keys, n)
	return api.OK
}

// P18.1, P18.2: numbers by chance, in whatever order, of keys by chance: what is told, and the rows.
func TestIndexByChance(t *testing.T) {
	for seed := range 12 {
		r := rand.New(rand.NewSource(int64(seed)))
		x := fresh(t)
		keys := someKeys()
		changes := map[int]map[string]bool{}
		for n := range 250 {
			changes[n] = map[string]bool{}
			for i, k := range keys {
				if r.Intn(1+i%4) == 0 {
					changes[n][k] = true
					put(t, x, api.AccountChanges, four(n)+k, "")
				}
			}
		}
		m := sets{}
		next := 0
		for step := range 400 {
			n, un := next, r.Intn(40) == 0
			next++
			if un || r.Intn(20) == 0 {
				n = max(next-r.Intn(20), 0)
			}
			if un {
				next = n
			}
			what := fmt.Sprint("seed ", seed, ", step ", step, ", of ", n, ", ", un)
			call := Index
			if un {
				call = Unindex
			}
			told := ruleIndex(m, changes[n], n, un)
			want(t, what, call(x, n), told)
			if step%10 == 0 {
				want(t, what+", the rows", pairs(x, api.AccountIndex), strings.Join(m.rows(api.AccountIndex), "\n"))
			}
		}
		for _, k := range keys {
			want(t, fmt.Sprintf("Blocks of %x", k), list(Blocks(x, api.AccountIndex, k)), fmt.Sprint(m[k]))
			for from := -2; from < 260; from++ {
				want(t, fmt.Sprintf("Next of %x from %d", k, from), found(Next(x, api.AccountIndex, k, from)), least(m[k], from))
			}
			want(t, fmt.Sprintf("Next of %x from above all", k), found(Next(x, api.AccountIndex, k, math.MaxInt)), "none")
		}
	}
}

// P18.3: nothing of this depends on what is asked ahead of it.
func TestAskedTwice(t *testing.T) {
	x := fresh(t)
	r := rand.New(rand.NewSource(5))
	for n := 1; n <= 100; n++ {
		follow(t, x, someBlock(r, n))
	}
	ask := func() string {
		var l []string
		for n := range 103 {
			for a := range 4 {
				l = append(l, accountAt(x, a, n), valueAt(x, a, 1, n), slotAt(x, a, n, 2, n))
			}
		}
		return strings.Join(l, " ")
	}
	first := ask()
	want(t, "asked twice", ask() == first, true)
	_, _ = plain.Changes(x, 5)
	want(t, "asked three times", ask() == first, true)
}
