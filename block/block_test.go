package block

import (
	"fmt"
	"math"
	"math/rand"
	"strings"
	"testing"

	"loess/api"
)

// The chapter's examples.
func TestExamples(t *testing.T) {
	s, e := Bytes(api.Block{Number: 1})
	want(t, "Bytes of block 1", bytesText(s, e), "c201c0 0")
	want(t, "Check of block 0", Check(api.Block{}), api.ErrBlock)
	want(t, "Check of two writes of one address", Check(api.Block{Number: 1, Writes: []api.Write{{Addr: addr(1)}, {Addr: addr(1)}}}), api.ErrBlock)
	a, ok := Account(api.Write{Nonce: 1}, api.Account{}, false, 7)
	want(t, "Account", accountText(a, ok), "nonce 1 balance  code  born 7 true")
}

// P16.1: a block's number.
func TestNumbers(t *testing.T) {
	for _, n := range []int{1, 2, 127, 128, 255, 256, 65535, 65536, 1 << 30, api.MaxBlock - 1, api.MaxBlock} {
		wantOne(t, fmt.Sprint("block ", n), api.Block{Number: n})
	}
	for _, n := range []int{0, -1, -2, -api.MaxBlock, math.MinInt32, math.MinInt, math.MinInt + 1, api.MaxBlock + 1, api.MaxBlock + 2, 1<<32 - 1, 1 << 32, 1<<32 + 1, 1 << 62, math.MaxInt} {
		wantNone(t, fmt.Sprint("block ", n), api.Block{Number: n})
		wantNone(t, fmt.Sprint("block ", n, " with a Write"), api.Block{Number: n, Writes: bares(1)})
	}
}

// P16.1: how many Writes, and Slots of one.
func TestCounts(t *testing.T) {
	for _, n := range []int{0, 1, 2, 63, 64} {
		wantOne(t, fmt.Sprint(n, " Writes"), api.Block{Number: 1, Writes: bares(n)})
		wantOne(t, fmt.Sprint(n, " Slots"), slotted(fulls(n)...))
		wantOne(t, fmt.Sprint(n, " Slots of three Writes"), api.Block{Number: 1, Writes: []api.Write{{Addr: addr(1), Slots: empties(n)}, {Addr: addr(2), Slots: empties(n)}, {Addr: addr(3), Slots: empties(n)}}})
	}
	for _, n := range []int{65, 66, 128, 256} {
		wantNone(t, fmt.Sprint(n, " Writes"), api.Block{Number: 1, Writes: bares(n)})
		wantNone(t, fmt.Sprint(n, " Slots"), slotted(empties(n)...))
		wantNone(t, fmt.Sprint(n, " Slots of the last Write"), api.Block{Number: 1, Writes: []api.Write{{Addr: addr(1)}, {Addr: addr(2), Slots: empties(n)}}})
	}
	want(t, "Check of very many Writes", Check(api.Block{Number: 1, Writes: make([]api.Write, 1<<20)}), api.ErrBlock)
	want(t, "Check of very many Slots", Check(slotted(make([]api.Slot, 1<<20)...)), api.ErrBlock)
	want(t, "Check of very many Slots that are gone", Check(one(api.Write{Gone: true, Slots: make([]api.Slot, 1<<20)})), api.ErrBlock)
}

// P16.1: addresses, and their order.
func TestAddresses(t *testing.T) {
	writes := func(addrs ...string) api.Block {
		b := api.Block{Number: 1}
		for _, a := range addrs {
			b.Writes = append(b.Writes, api.Write{Addr: a})
		}
		return b
	}
	zero, most := strings.Repeat("\x00", 20), full(20)
	wantOne(t, "an address of zeros", writes(zero))
	wantOne(t, "the greatest address", writes(most))
	wantOne(t, "both", writes(zero, most))
	wantOne(t, "rising ones", writes(addr(1), addr(2), addr(9), addr(200)))
	wantOne(t, "such as rise by the last byte", writes(zero[1:]+"\x7f", zero[1:]+"\x80", zero[1:]+"\xff"))
	for _, l := range [][]string{
		{most, zero}, {addr(2), addr(1)}, {addr(1), addr(1)}, {zero, zero}, {addr(1), addr(2), addr(2)}, {addr(1), addr(3), addr(2)}, {addr(1), addr(2), addr(1)}, {addr(2), addr(1), addr(3)},
		{zero[1:] + "\x80", zero[1:] + "\x7f"},
	} {
		wantNone(t, fmt.Sprintf("addresses %x", l), writes(l...))
	}
	for _, a := range []string{"", "\x00", "\xff", addr(5)[:19], addr(5) + "\x00", strings.Repeat("\xad", 32), addr(5) + addr(5), full(100)} {
		wantNone(t, fmt.Sprintf("address %x", a), writes(a))
		wantNone(t, fmt.Sprintf("address %x behind another", a), writes(addr(1), a))
		wantNone(t, fmt.Sprintf("address %x ahead of another", a), writes(a, addr(200)))
		wantNone(t, fmt.Sprintf("address %x, gone", a), api.Block{Number: 1, Writes: []api.Write{{Addr: a, Gone: true}}})
	}
}

// P16.1: keys, and their order.
func TestKeys(t *testing.T) {
	slots := func(keys ...string) api.Block {
		var l []api.Slot
		for _, k := range keys {
			l = append(l, api.Slot{Key: k, Value: "\x01"})
		}
		return slotted(l...)
	}
	zero, most := strings.Repeat("\x00", 32), full(32)
	wantOne(t, "a key of zeros", slots(zero))
	wantOne(t, "the greatest key", slots(most))
	wantOne(t, "both", slots(zero, most))
	wantOne(t, "rising ones", slots(key(1), key(2), key(127), key(128), key(255)))
	for _, l := range [][]string{{most, zero}, {key(2), key(1)}, {key(1), key(1)}, {zero, zero}, {key(1), key(2), key(2)}, {key(1), key(3), key(2)}, {key(1), key(2), key(1)}, {key(128), key(127)}} {
		wantNone(t, fmt.Sprintf("keys %x", l), slots(l...))
	}
	for _, k := range []string{"", "\x00", key(5)[:31], key(5) + "\x00", addr(5), key(5) + key(5), full(100)} {
		wantNone(t, fmt.Sprintf("key %x", k), slots(k))
		wantNone(t, fmt.Sprintf("key %x behind another", k), slots(zero, k))
		wantNone(t, fmt.Sprintf("key %x ahead of another", k), slots(k, most))
	}
	// Keys of two Writes have nothing to do with each other.
	same := api.Block{Number: 1, Writes: []api.Write{{Addr: addr(1), Slots: []api.Slot{{Key: key(9)}}}, {Addr: addr(2), Slots: []api.Slot{{Key: key(9)}}}, {Addr: addr(3), Slots: []api.Slot{{Key: key(1)}}}}}
	wantOne(t, "keys of several Writes", same)
}

// P16.1: balances and values are numbers.
func TestBalancesAndValues(t *testing.T) {
	for _, n := range []string{"", "\x01", "\x7f", "\x80", "\xff", "\x01\x00", full(31), full(32), "\x01" + strings.Repeat("\x00", 31)} {
		wantOne(t, fmt.Sprintf("balance %x", n), one(api.Write{Balance: n}))
		wantOne(t, fmt.Sprintf("balance %x with Reset", n), one(api.Write{Reset: true, Balance: n}))
		wantOne(t, fmt.Sprintf("value %x", n), slotted(api.Slot{Key: key(1), Value: n}))
	}
	for _, n := range []string{"\x00", "\x00\x01", "\x00\x00", strings.Repeat("\x00", 32), "\x00" + full(31), full(33), "\x00" + full(32), "\x01" + strings.Repeat("\x00", 32), full(200), strings.Repeat("\x01", 70000)} {
		what := fmt.Sprintf("%.80x", n)
		wantNone(t, "balance "+what, one(api.Write{Balance: n}))
		wantNone(t, "balance with Reset "+what, one(api.Write{Reset: true, Balance: n}))
		wantNone(t, "balance of the second "+what, api.Block{Number: 1, Writes: []api.Write{{Addr: addr(1)}, {Addr: addr(2), Balance: n}}})
		wantNone(t, "value "+what, slotted(api.Slot{Key: key(1), Value: n}))
		wantNone(t, "value of the second "+what, slotted(api.Slot{Key: key(1)}, api.Slot{Key: key(2), Value: n}))
		wantNone(t, "value of the first "+what, slotted(api.Slot{Key: key(1), Value: n}, api.Slot{Key: key(2)}))
	}
}

// P16.1: a code's hash has 32 bytes, or none.
func TestCodes(t *testing.T) {
	for size := range 70 {
		b := one(api.Write{Code: full(size)})
		if size == 0 || size == 32 {
			wantOne(t, fmt.Sprint("a code of ", size), b)
		} else {
			wantNone(t, fmt.Sprint("a code of ", size), b)
		}
	}
	wantOne(t, "a code of zeros", one(api.Write{Code: strings.Repeat("\x00", 32)}))
	wantNone(t, "a code of very many bytes", one(api.Write{Code: full(70000)}))
}

// P16.1: what is gone has nothing else.
func TestGone(t *testing.T) {
	wantOne(t, "gone", one(api.Write{Gone: true}))
	wantOne(t, "gone, with Slots that are empty", one(api.Write{Gone: true, Slots: []api.Slot{}}))
	// The bytes of a Write that is Gone and has Reset would be those of one that is Gone alone.
	wantOne(t, "Reset", one(api.Write{Reset: true}))
	wantRefused(t, "gone, with Reset", one(api.Write{Gone: true, Reset: true}))
	wantRefused(t, "gone, with Reset and a Nonce", one(api.Write{Gone: true, Reset: true, Nonce: 1}))
	for what, w := range map[string]api.Write{
		"a Nonce": {Nonce: 1}, "the greatest Nonce": {Nonce: math.MaxUint64}, "a Balance": {Balance: "\x01"}, "a Code": {Code: hash(1)},
		"a Slot": {Slots: []api.Slot{{Key: key(1)}}}, "64 Slots": {Slots: fulls(64)},
	} {
		wantOne(t, what, one(w))
		w.Gone = true
		wantNone(t, "gone, with "+what, one(w))
		w.Addr = addr(2)
		wantNone(t, "one that is, and one gone, with "+what, api.Block{Number: 1, Writes: []api.Write{{Addr: addr(1), Gone: true}, w}})
	}
}

// sized is a block that has just so many bytes, from some 57000 on, and may be but for these.
func sized(size int) api.Block {
	b := api.Block{Number: 1, Writes: bares(14)}
	for i := range 13 {
		b.Writes[i].Slots = fulls(64)
	}
	room := size - len(ruleBytes(b))
	// A Slot of fulls has 68 bytes; the heads of the list and of the Write that they make longer have less than 8.
	last := fulls(room/68 - 1)
	b.Writes[13].Slots = last
	// Each byte of these Balances is one more: their Writes have heads for more anyway.
	room = size - len(ruleBytes(b))
	for i := 0; room > 0; i++ {
		n := min(room, 32)
		b.Writes[i].Balance = full(n)
		room -= n
	}
	return b
}

// P16.1: 60000 bytes, and one more.
func TestSizes(t *testing.T) {
	for _, size := range []int{59950, 59998, 59999, 60000} {
		b := sized(size)
		s, _ := Bytes(b)
		want(t, "how many bytes", len(s), size)
		wantOne(t, fmt.Sprint("a block of ", size), b)
	}
	for _, size := range []int{60001, 60002, 60100} {
		b := sized(size)
		want(t, "how many bytes there would be", len(ruleBytes(b)), size)
		wantNone(t, fmt.Sprint("a block of ", size), b)
	}
	for what, more := range map[string]func(b *api.Block){
		"its number":  func(b *api.Block) { b.Number = 128 },
		"a Nonce":     func(b *api.Block) { b.Writes[0].Nonce = 128 },
		"a Balance":   func(b *api.Block) { b.Writes[5].Balance = "\x80" },
		"the last":    func(b *api.Block) { b.Writes[13].Balance = "\xff" },
		"many Writes": func(b *api.Block) { b.Writes = append(b.Writes, api.Write{Addr: addr(99), Gone: true}) },
	} {
		b := sized(60000)
		more(&b)
		wantNone(t, "too many bytes by "+what, b)
	}
	var all []api.Write
	for i := range 64 {
		all = append(all, api.Write{Addr: addr(i), Nonce: math.MaxUint64, Balance: full(32), Code: hash(1), Slots: fulls(64)})
	}
	wantNone(t, "the greatest block", api.Block{Number: api.MaxBlock, Writes: all})
}

// P16.1, P16.4: the blocks that may be.
func TestBlocks(t *testing.T) {
	for _, b := range append(blocks(), largeBlocks()...) {
		wantOne(t, text(b), b)
	}
}

// P16.1, P16.2, P16.4: blocks by chance are as the chapter's rules say.
func TestBlocksByChance(t *testing.T) {
	r, found := rand.New(rand.NewSource(16)), 0
	for range 20000 {
		b := someBlock(r)
		if ruleCheck(b) != api.OK {
			wantRefused(t, text(b), b)
			continue
		}
		found++
		wantOne(t, text(b), b)
	}
	if found < 5000 || found > 15000 {
		t.Errorf("%d of the blocks may be", found)
	}
}

// P16.3: each Write, with an account ahead and without one.
func TestAccount(t *testing.T) {
	had := api.Account{Nonce: 8, Balance: "\x08\x08", Code: hash(8), Born: 3}
	full := api.Write{Addr: addr(1), Nonce: 2, Balance: "\x05", Code: hash(7), Slots: fulls(2)}
	again := full
	again.Reset = true
	parts := fmt.Sprintf("nonce 2 balance 05 code %x born", hash(7))
	for _, c := range []struct {
		what   string
		w      api.Write
		had    api.Account
		was    bool
		number int
		told   string
	}{
		{"a Write of nothing, of none", api.Write{}, api.Account{}, false, 9, "nonce 0 balance  code  born 9 true"},
		{"a Write of nothing, of one", api.Write{}, had, true, 9, "nonce 0 balance  code  born 3 true"},
		{"a Write, of none", full, api.Account{}, false, 9, parts + " 9 true"},
		{"a Write, of none, with what is no account's", full, had, false, 9, parts + " 9 true"},
		{"a Write, of one", full, had, true, 9, parts + " 3 true"},
		{"a Write, of one that was born in the same block", full, api.Account{Born: 9}, true, 9, parts + " 9 true"},
		{"a Write, of one that was born in block 0", full, api.Account{}, true, 9, parts + " 0 true"},
		{"a Write with Reset, of none", again, api.Account{}, false, 9, parts + " 9 true"},
		{"a Write with Reset, of none, with what is no account's", again, had, false, 9, parts + " 9 true"},
		{"a Write with Reset, of one", again, had, true, 9, parts + " 9 true"},
		{"a Write with Reset, of nothing, of one", api.Write{Reset: true}, had, true, 1, "nonce 0 balance  code  born 1 true"},
		{"a Write, gone, of none", api.Write{Addr: addr(1), Gone: true}, api.Account{}, false, 9, noAccount},
		{"a Write, gone, of one", api.Write{Addr: addr(1), Gone: true}, had, true, 9, noAccount},
		{"in the greatest block", api.Write{Nonce: math.MaxUint64}, api.Account{}, false, api.MaxBlock, fmt.Sprintf("nonce %d balance  code  born %d true", uint64(math.MaxUint64), api.MaxBlock)},
		{"in block 0", api.Write{}, had, false, 0, "nonce 0 balance  code  born 0 true"},
		{"below block 0", api.Write{}, had, false, -5, "nonce 0 balance  code  born -5 true"},
		{"gone, and more beside", api.Write{Gone: true, Reset: true, Nonce: 4, Balance: "\x01"}, had, true, 9, noAccount},
		{"that may not be", api.Write{Balance: "\x00", Code: "x"}, had, true, 9, "nonce 0 balance 00 code 78 born 3 true"},
	} {
		want(t, "Account of "+c.what, accountText(Account(c.w, c.had, c.was, c.number)), c.told)
	}
}

// P16.3: addresses, in order.
func TestTouched(t *testing.T) {
	want(t, "Touched of no Writes", len(Touched(api.Block{Number: 1})), 0)
	want(t, "Touched of Writes that are empty", len(Touched(api.Block{Number: 1, Writes: []api.Write{}})), 0)
	b := api.Block{Number: 9, Writes: []api.Write{{Addr: addr(1), Gone: true}, {Addr: addr(4), Reset: true, Slots: fulls(3)}, {Addr: addr(7), Nonce: 1}}}
	want(t, "Touched", fmt.Sprintf("%x", Touched(b)), fmt.Sprintf("%x", []string{addr(1), addr(4), addr(7)}))
	many := api.Block{Number: 9, Writes: bares(64)}
	l := Touched(many)
	want(t, "how many", len(l), 64)
	for i, a := range l {
		want(t, fmt.Sprint("address ", i), a, addr(i))
	}
	none := api.Block{Writes: []api.Write{{Addr: "b"}, {Addr: "a"}, {Addr: "a"}, {}}}
	want(t, "Touched of a block that may not be", strings.Join(Touched(none), ","), "b,a,a,")
}

// R3, R4: what is handed in stays, and the same calls have the same answers.
func TestWhatIsHandedInStays(t *testing.T) {
	wrong := []api.Block{{Number: 1, Writes: []api.Write{{Addr: addr(2), Slots: fulls(2)}, {Addr: addr(1), Gone: true, Nonce: 1}}}, slotted(api.Slot{Key: key(2)}, api.Slot{Key: key(1)}), {Number: 1, Writes: bares(65)}}
	for _, b := range append(append(blocks(), largeBlocks()...), wrong...) {
		before := text(b)
		check, s := Check(b), bytesText(Bytes(b))
		touched := fmt.Sprintf("%x", Touched(b))
		var accounts string
		for _, w := range b.Writes {
			accounts += accountText(Account(w, api.Account{Born: 1}, true, 5))
		}
		want(t, "a block behind the calls", text(b), before)
		want(t, "Check again", Check(b), check)
		want(t, "Bytes again", bytesText(Bytes(b)), s)
		want(t, "Touched again", fmt.Sprintf("%x", Touched(b)), touched)
		for _, w := range b.Writes {
			accounts = strings.TrimPrefix(accounts, accountText(Account(w, api.Account{Born: 1}, true, 5)))
		}
		want(t, "Account again", accounts, "")
	}
}

// R3: what is told is its owner's.
func TestWhatIsToldIsItsOwners(t *testing.T) {
	b := blocks()[len(blocks())-1]
	before := text(b)
	l := Touched(b)
	told := fmt.Sprintf("%x", l)
	for i := range l {
		l[i] = "x"
	}
	want(t, "the block behind a change of Touched", text(b), before)
	l = Touched(b)
	s, _ := Bytes(b)
	bytes := fmt.Sprintf("%x", s)
	b.Writes[0].Addr, b.Writes[0].Slots[0].Key, b.Writes[2] = "x", "y", api.Write{}
	want(t, "Touched behind a change of the block", fmt.Sprintf("%x", l), told)
	want(t, "Bytes behind a change of the block", fmt.Sprintf("%x", s), bytes)
}
