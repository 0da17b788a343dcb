package plain

import (
	"bytes"
	"cmp"
	"fmt"
	"maps"
	"math/rand"
	"slices"
	"strings"
	"testing"

	"loess/api"
	"loess/disk"
	"loess/kv"
)

// place is a slot of the account that was born in a block.
type place struct {
	addr string
	born int
	key  string
}

// world is what the chapter's rules make of blocks: the state, and behind each block what it changed.
type world struct {
	accounts map[string]api.Account
	values   map[place]string
	blocks   []past
}

// past is a block's number, the accounts (those that there were) and the numbers ahead of it, and the world's state then.
type past struct {
	number   int
	had      map[string]*api.Account
	numbers  map[place]string
	accounts map[string]api.Account
	values   map[place]string
}

func newWorld() *world { return &world{accounts: map[string]api.Account{}, values: map[place]string{}} }

// apply is the chapter's rules written once more.
func (m *world) apply(b api.Block) {
	p := past{b.Number, map[string]*api.Account{}, map[place]string{}, maps.Clone(m.accounts), maps.Clone(m.values)}
	for _, w := range b.Writes {
		had, was := p.accounts[w.Addr]
		p.had[w.Addr] = nil
		if was {
			p.had[w.Addr] = &had
		}
		for at, v := range p.values {
			if was && (w.Gone || w.Reset) && at.addr == w.Addr && at.born == had.Born {
				p.numbers[at] = v
				delete(m.values, at)
			}
		}
		delete(m.accounts, w.Addr)
		if w.Gone {
			continue
		}
		now := api.Account{Nonce: w.Nonce, Balance: w.Balance, Code: w.Code, Born: b.Number}
		if was && !w.Reset {
			now.Born = had.Born
		}
		m.accounts[w.Addr] = now
		for _, s := range w.Slots {
			at := place{w.Addr, now.Born, s.Key}
			p.numbers[at] = p.values[at]
			delete(m.values, at)
			if s.Value != "" {
				m.values[at] = s.Value
			}
		}
	}
	m.blocks = append(m.blocks, p)
}

// undo takes the last block away.
func (m *world) undo() int {
	p := m.blocks[len(m.blocks)-1]
	m.blocks = m.blocks[:len(m.blocks)-1]
	m.accounts, m.values = p.accounts, p.values
	return p.number
}

func oldRecord(a *api.Account) string {
	if a == nil {
		return ""
	}
	return recordOf(*a)
}

// all is what the tables have.
func (m *world) all() string {
	var l []string
	for a, v := range m.accounts {
		l = append(l, row(api.Accounts, recordOf(v), a))
	}
	for at, v := range m.values {
		l = append(l, row(api.Slots, v, at.addr, four(at.born), at.key))
	}
	for _, p := range m.blocks {
		for a, had := range p.had {
			l = append(l, row(api.AccountChanges, oldRecord(had), four(p.number), a))
		}
		for at, v := range p.numbers {
			l = append(l, row(api.SlotChanges, v, four(p.number), at.addr, four(at.born), at.key))
		}
	}
	slices.Sort(l)
	return strings.Join(l, "\n")
}

// changes is what a block changed, as the helper of that name tells it.
func (p past) changes() string {
	var l []string
	for _, a := range slices.Sorted(maps.Keys(p.had)) {
		l = append(l, fmt.Sprintf("%x 0 : %x", a, oldRecord(p.had[a])))
	}
	byPlace := func(a, b place) int {
		return cmp.Or(strings.Compare(a.addr, b.addr), cmp.Compare(a.born, b.born), strings.Compare(a.key, b.key))
	}
	for _, at := range slices.SortedFunc(maps.Keys(p.numbers), byPlace) {
		l = append(l, fmt.Sprintf("%x %d %x: %x", at.addr, at.born, at.key, p.numbers[at]))
	}
	return strings.Join(l, "\n")
}

// someNumber is a slot's or a balance's by chance, empty at times.
func someNumber(r *rand.Rand) string {
	b := bytes.Repeat([]byte{byte(1 + r.Intn(255))}, r.Intn(4)*r.Intn(12))
	return string(b[:min(len(b), 32)])
}

func someWrite(r *rand.Rand, address int) api.Write {
	if r.Intn(4) == 0 {
		return gone(address)
	}
	w := api.Write{Addr: addr(address), Reset: r.Intn(4) == 0, Nonce: uint64(r.Intn(300)), Balance: someNumber(r)}
	if r.Intn(3) == 0 {
		w.Code = strings.Repeat("\xc0", 32)
	}
	for k := range 6 {
		if r.Intn(3) == 0 {
			w.Slots = append(w.Slots, api.Slot{Key: key(k * 51), Value: someNumber(r)})
		}
	}
	return w
}

func someBlock(r *rand.Rand, number int) api.Block {
	b := api.Block{Number: number}
	for a := range 6 {
		if r.Intn(3) == 0 {
			b.Writes = append(b.Writes, someWrite(r, a*51))
		}
	}
	return b
}

// asked holds what the calls tell of every address and key against the world.
func asked(t *testing.T, what string, x *kv.Tx, m *world) {
	t.Helper()
	for i := range 7 {
		a, k := addr(i*51), key((i*3%7)*51)
		v, ok := m.accounts[a]
		want(t, what+", Account", account(Account(x, a)), account(v, ok, api.OK))
		want(t, what+", Value", number(Value(x, a, k)), fmt.Sprintf("%x", m.values[place{a, v.Born, k}]))
		for born := range 4 {
			want(t, what+", Slot", number(Slot(x, a, v.Born+born, k)), fmt.Sprintf("%x", m.values[place{a, v.Born + born, k}]))
		}
	}
	for _, p := range m.blocks {
		want(t, fmt.Sprint(what, ", Changes of ", p.number), changes(Changes(x, p.number)), p.changes())
	}
}

// P17.1 to P17.4: blocks by chance, applied by rising numbers and undone by falling ones, hold what the rules say.
func TestByChance(t *testing.T) {
	for seed := range 30 {
		r := rand.New(rand.NewSource(int64(seed)))
		s := opened(t, disk.New(4000))
		x := begun(t, s)
		m := newWorld()
		next := 1 + r.Intn(2)*250
		for step := range 60 {
			what := fmt.Sprint("seed ", seed, ", step ", step)
			switch {
			case r.Intn(3) > 0 || len(m.blocks) == 0:
				b := someBlock(r, next)
				apply(t, x, b)
				m.apply(b)
				next += 1 + r.Intn(3)
			default:
				next = m.undo()
				undo(t, x, next)
			}
			want(t, what, all(x), m.all())
			if step%10 == 9 {
				asked(t, what, x, m)
			}
			if r.Intn(8) == 0 {
				want(t, what+", Commit", x.Commit(), api.OK)
				x = begun(t, s)
			}
		}
		for len(m.blocks) > 0 {
			undo(t, x, m.undo())
		}
		stands(t, fmt.Sprint("seed ", seed, ", all undone"), x)
	}
}
