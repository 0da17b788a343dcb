package block

import (
	"encoding/hex"
	"fmt"
	"math"
	"strings"
	"testing"

	"loess/api"
)

func want[T comparable](t *testing.T, what string, got, want T) {
	t.Helper()
	if got != want {
		t.Errorf("%s: %.900s, want %.900s", what, fmt.Sprint(got), fmt.Sprint(want))
	}
}

func unhex(t *testing.T, digits string) string {
	t.Helper()
	b, err := hex.DecodeString(strings.Join(strings.Fields(digits), ""))
	if err != nil {
		t.Fatal(err)
	}
	return string(b)
}

// addr is an address by its first byte: greater bytes, greater addresses.
func addr(n int) string { return string([]byte{byte(n)}) + strings.Repeat("\xad", 19) }

// key is a slot's key by its last byte.
func key(n int) string { return strings.Repeat("\x5e", 31) + string([]byte{byte(n)}) }

// full is a number of so many bytes.
func full(size int) string { return strings.Repeat("\xff", size) }

// hash is a code's.
func hash(first byte) string { return string([]byte{first}) + strings.Repeat("\xc0", 31) }

// bares is so many Writes that tell nothing but rising addresses.
func bares(count int) []api.Write {
	var l []api.Write
	for i := range count {
		l = append(l, api.Write{Addr: addr(i)})
	}
	return l
}

// empties is so many Slots of rising keys, where nothing stands.
func empties(count int) []api.Slot {
	var l []api.Slot
	for i := range count {
		l = append(l, api.Slot{Key: key(i)})
	}
	return l
}

// fulls is so many Slots of rising keys, with the greatest numbers.
func fulls(count int) []api.Slot {
	l := empties(count)
	for i := range l {
		l[i].Value = full(32)
	}
	return l
}

// one is block 1 with a single Write, by address 1.
func one(w api.Write) api.Block {
	w.Addr = addr(1)
	return api.Block{Number: 1, Writes: []api.Write{w}}
}

// slotted is block 1 that writes these Slots.
func slotted(l ...api.Slot) api.Block { return one(api.Write{Slots: l}) }

// blocks are some that may be: without Writes, with each kind of them, and with each part at its edges.
func blocks() []api.Block {
	return []api.Block{
		{Number: 1}, {Number: 127}, {Number: 128}, {Number: 256}, {Number: 1 << 24}, {Number: api.MaxBlock},
		one(api.Write{}),
		one(api.Write{Gone: true}),
		one(api.Write{Reset: true}),
		one(api.Write{Nonce: 1}),
		one(api.Write{Nonce: 128, Balance: "\x80"}),
		one(api.Write{Nonce: math.MaxUint64, Balance: full(32), Code: hash(0)}),
		one(api.Write{Reset: true, Nonce: 256, Balance: "\x01\x00", Code: strings.Repeat("\x00", 32)}),
		slotted(api.Slot{Key: key(0)}),
		slotted(api.Slot{Key: key(0), Value: "\x7f"}, api.Slot{Key: key(1)}, api.Slot{Key: key(255), Value: full(32)}),
		slotted(api.Slot{Key: strings.Repeat("\x00", 32), Value: "\x01"}, api.Slot{Key: full(32), Value: "\x80"}),
		one(api.Write{Reset: true, Slots: []api.Slot{{Key: key(7), Value: "\x01\x00"}}}),
		{Number: 2, Writes: []api.Write{{Addr: strings.Repeat("\x00", 20), Gone: true}, {Addr: full(20), Reset: true}}},
		{Number: 77, Writes: []api.Write{
			{Addr: addr(0), Nonce: 9, Slots: empties(2)},
			{Addr: addr(1), Gone: true},
			{Addr: addr(2), Reset: true, Balance: "\x05", Slots: fulls(2)},
			{Addr: addr(3), Code: hash(255)},
		}},
	}
}

// largeBlocks are such as have a limit's number of Writes or Slots.
func largeBlocks() []api.Block {
	return []api.Block{
		{Number: 3, Writes: bares(64)},
		slotted(empties(64)...),
		one(api.Write{Reset: true, Nonce: 1, Slots: fulls(64)}),
		{Number: 4, Writes: []api.Write{{Addr: addr(0), Slots: empties(64)}, {Addr: addr(1), Slots: fulls(64)}, {Addr: addr(2), Gone: true}}},
	}
}

// text is all that a block has.
func text(b api.Block) string {
	l := []string{fmt.Sprint(b.Number)}
	for _, w := range b.Writes {
		l = append(l, fmt.Sprintf("[%x gone %v reset %v nonce %d balance %x code %x]", w.Addr, w.Gone, w.Reset, w.Nonce, w.Balance, w.Code))
		for _, s := range w.Slots {
			l = append(l, fmt.Sprintf("(%x %x)", s.Key, s.Value))
		}
	}
	return strings.Join(l, " ")
}

func bytesText(s string, e api.Errno) string { return fmt.Sprintf("%x %d", s, int(e)) }

func readText(b api.Block, e api.Errno) string { return fmt.Sprintf("%s, error %d", text(b), int(e)) }

func accountText(a api.Account, ok bool) string {
	return fmt.Sprintf("nonce %d balance %x code %x born %d %v", a.Nonce, a.Balance, a.Code, a.Born, ok)
}

const (
	noBytes   = " 19"         // ErrBlock, and no text
	noBlock   = "0, error 10" // ErrForm, and no block
	noAccount = "nonce 0 balance  code  born 0 false"
)

// wantRefused holds a block that may not be against what Check and Bytes tell of it.
func wantRefused(t *testing.T, what string, b api.Block) {
	t.Helper()
	want(t, "Check of "+what, Check(b), api.ErrBlock)
	want(t, "Bytes of "+what, bytesText(Bytes(b)), noBytes)
}

// wantNone does so too, and holds what its bytes would be against what Read tells of them.
func wantNone(t *testing.T, what string, b api.Block) {
	t.Helper()
	wantRefused(t, what, b)
	want(t, "Read of the bytes of "+what, readText(Read(ruleBytes(b))), noBlock)
}

// wantOne holds a block that may be against what Check and Bytes tell of it, and Read of these.
func wantOne(t *testing.T, what string, b api.Block) {
	t.Helper()
	want(t, "Check of "+what, Check(b), api.OK)
	s, e := Bytes(b)
	want(t, "Bytes of "+what, bytesText(s, e), bytesText(ruleBytes(b), api.OK))
	want(t, "Read of the bytes of "+what, readText(Read(s)), readText(b, api.OK))
}
