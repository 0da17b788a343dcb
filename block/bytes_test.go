package block

import (
	"fmt"
	"math"
	"math/rand"
	"strings"
	"testing"

	"loess/api"
)

const (
	aa = "61616161 61616161 61616161 61616161 61616161"
	bb = "62626262 62626262 62626262 62626262 62626262"
	kk = "6b6b6b6b 6b6b6b6b 6b6b6b6b 6b6b6b6b 6b6b6b6b 6b6b6b6b 6b6b6b6b 6b6b6b6b"
	ll = "6c6c6c6c 6c6c6c6c 6c6c6c6c 6c6c6c6c 6c6c6c6c 6c6c6c6c 6c6c6c6c 6c6c6c6c"
)

// P16.2: blocks written down by hand.
func TestBytesKnown(t *testing.T) {
	a, b := strings.Repeat("a", 20), strings.Repeat("b", 20)
	k, l := strings.Repeat("k", 32), strings.Repeat("l", 32)
	for _, c := range []struct {
		b      api.Block
		digits string
	}{
		{api.Block{Number: 1}, "c2 01 c0"},
		{api.Block{Number: 1, Writes: []api.Write{}}, "c2 01 c0"},
		{api.Block{Number: 127}, "c2 7f c0"},
		{api.Block{Number: 128}, "c3 81 80 c0"},
		{api.Block{Number: 1024}, "c4 82 04 00 c0"},
		{api.Block{Number: api.MaxBlock}, "c6 84 7f ff ff ff c0"},
		{api.Block{Number: 2, Writes: []api.Write{{Addr: a}}}, "dd 02 db da 94" + aa + "80 80 80 80 c0"},
		{api.Block{Number: 2, Writes: []api.Write{{Addr: a, Gone: true}}}, "dd 02 db da 94" + aa + "01 80 80 80 c0"},
		{api.Block{Number: 2, Writes: []api.Write{{Addr: a, Reset: true}}}, "dd 02 db da 94" + aa + "02 80 80 80 c0"},
		{api.Block{Number: 2, Writes: []api.Write{{Addr: a, Nonce: 3, Balance: "\x07"}}}, "dd 02 db da 94" + aa + "80 03 07 80 c0"},
		{api.Block{Number: 2, Writes: []api.Write{{Addr: a, Nonce: 128, Balance: "\x80"}}}, "df 02 dd dc 94" + aa + "80 81 80 81 80 80 c0"},
		{
			api.Block{Number: 2, Writes: []api.Write{{Addr: a, Nonce: math.MaxUint64, Balance: "\x01\x00"}}},
			"e7 02 e5 e4 94" + aa + "80 88 ff ff ff ff ff ff ff ff 82 01 00 80 c0",
		},
		{api.Block{Number: 2, Writes: []api.Write{{Addr: a, Code: k}}}, "f8 3f 02 f8 3c f8 3a 94" + aa + "80 80 80 a0" + kk + "c0"},
		{api.Block{Number: 2, Writes: []api.Write{{Addr: a, Balance: k}}}, "f8 3f 02 f8 3c f8 3a 94" + aa + "80 80 a0" + kk + "80 c0"},
		{api.Block{Number: 2, Writes: []api.Write{{Addr: a, Slots: []api.Slot{{Key: k}}}}}, "f8 42 02 f8 3f f8 3d 94" + aa + "80 80 80 80 e3 e2 a0" + kk + "80"},
		{
			api.Block{Number: 5, Writes: []api.Write{{Addr: a, Reset: true, Nonce: 3, Balance: "\x07", Slots: []api.Slot{{Key: k, Value: "\x09"}}}, {Addr: b, Gone: true}}},
			"f8 5d 05 f8 5a f8 3d 94" + aa + "02 03 07 80 e3 e2 a0" + kk + "09 da 94" + bb + "01 80 80 80 c0",
		},
		{
			api.Block{Number: 5, Writes: []api.Write{{Addr: a, Slots: []api.Slot{{Key: k, Value: l}, {Key: l}}}}},
			"f8 87 05 f8 84 f8 82 94" + aa + "80 80 80 80 f8 67 f8 42 a0" + kk + "a0" + ll + "e2 a0" + ll + "80",
		},
	} {
		s := unhex(t, c.digits)
		want(t, "Bytes of "+text(c.b), bytesText(Bytes(c.b)), bytesText(s, api.OK))
		want(t, "Read of "+c.digits, readText(Read(s)), readText(c.b, api.OK))
	}
}

// P16.2: bytes cut short anywhere, or with more behind them, are no block's.
func TestReadOfMoreAndLess(t *testing.T) {
	for _, b := range append(append(blocks(), largeBlocks()...), sized(60000)) {
		s := ruleBytes(b)
		for short := range len(s) {
			if told := readText(Read(s[:short])); told != noBlock {
				t.Fatalf("Read of %d bytes of %.900x: %.900s", short, s, told)
			}
		}
		for more := range 256 {
			want(t, fmt.Sprintf("Read of %.900x and %02x", s, more), readText(Read(s+string([]byte{byte(more)}))), noBlock)
		}
		for _, more := range []string{s, "\xc2\x01\xc0", strings.Repeat("\x00", 60000), strings.Repeat("\xc0", 1<<20)} {
			want(t, fmt.Sprintf("Read of %.900x and %.900x", s, more), readText(Read(s+more)), noBlock)
			want(t, fmt.Sprintf("Read of %.900x and %.900x", more, s), readText(Read(more+s)), noBlock)
		}
	}
}

// P16.2, P16.4: with each byte another one, bytes are another block's, or none's.
func TestReadOfOtherBytes(t *testing.T) {
	found := 0
	for _, b := range blocks() {
		s := []byte(ruleBytes(b))
		for at, was := range s {
			for other := range 256 {
				if other == int(was) {
					continue
				}
				s[at] = byte(other)
				b, e := ruleRead(string(s))
				if got, rule := readText(Read(string(s))), readText(b, e); got != rule {
					t.Fatalf("Read of %x: %s, want %s", s, got, rule)
				}
				if e == api.OK {
					found++
				}
			}
			s[at] = was
		}
	}
	if found < 1000 {
		t.Errorf("only %d blocks were among them", found)
	}
}

// P16.2: the same of blocks of very many bytes, here and there.
func TestReadOfOtherBytesOfLargeBlocks(t *testing.T) {
	for _, b := range append(largeBlocks(), sized(60000)) {
		s := []byte(ruleBytes(b))
		for at := 0; at < len(s); at += 1 + len(s)/200 {
			was := s[at]
			for _, other := range []byte{was + 1, was ^ 0x80, 0} {
				s[at] = other
				b, e := ruleRead(string(s))
				want(t, fmt.Sprintf("Read of another byte at %d", at), readText(Read(string(s))), readText(b, e))
			}
			s[at] = was
		}
	}
}

// part is where a thing stands in a block: its parts' places, from the outermost on.
type part []int

// changed is x with what change makes of the thing at that place.
func changed(x thing, at part, change func(x thing) thing) thing {
	if len(at) == 0 {
		return change(x)
	}
	x.parts = append([]thing(nil), x.parts...)
	x.parts[at[0]] = changed(x.parts[at[0]], at[1:], change)
	return x
}

// whole is a thing of all kinds: Write 0 has two Slots, Write 1 is gone.
func whole() thing {
	return ruleThing(api.Block{Number: 5, Writes: []api.Write{
		{Addr: addr(1), Reset: true, Nonce: 3, Balance: "\x07", Code: hash(4), Slots: []api.Slot{{Key: key(1), Value: "\x09"}, {Key: key(2)}}},
		{Addr: addr(2), Gone: true},
	}})
}

// wantNoBlock holds what Read tells of the whole with another thing at a place.
func wantNoBlock(t *testing.T, what string, at part, change func(x thing) thing) {
	t.Helper()
	s := ruleWritten(changed(whole(), at, change))
	want(t, fmt.Sprintf("Read of %s at %v", what, at), readText(Read(s)), noBlock)
}

// lists and texts are where such stand in the whole.
func lists() []part {
	return []part{nil, {1}, {1, 0}, {1, 1}, {1, 0, 5}, {1, 1, 5}, {1, 0, 5, 0}, {1, 0, 5, 1}}
}

func textParts() []part {
	return []part{{0}, {1, 0, 0}, {1, 0, 1}, {1, 0, 2}, {1, 0, 3}, {1, 0, 4}, {1, 1, 0}, {1, 1, 1}, {1, 1, 2}, {1, 1, 3}, {1, 1, 4}, {1, 0, 5, 0, 0}, {1, 0, 5, 0, 1}, {1, 0, 5, 1, 0}, {1, 0, 5, 1, 1}}
}

// P16.2: bytes for a list, a list for bytes, whatever is in them.
func TestReadOfOtherKinds(t *testing.T) {
	_, e := Read(ruleWritten(whole()))
	want(t, "Read of the whole", e, api.OK)
	for _, at := range lists() {
		for _, s := range []string{"", "\x00", "\x01", "\xc0", addr(1), strings.Repeat("\x01", 60)} {
			wantNoBlock(t, fmt.Sprintf("bytes %x for a list", s), at, func(thing) thing { return textThing(s) })
		}
		wantNoBlock(t, "a list's payload as bytes", at, func(x thing) thing {
			var payload string
			for _, p := range x.parts {
				payload += ruleWritten(p)
			}
			return textThing(payload)
		})
		wantNoBlock(t, "a list around", at, func(x thing) thing { return listThing(x) })
	}
	for _, at := range textParts() {
		wantNoBlock(t, "a list without anything for bytes", at, func(thing) thing { return listThing() })
		wantNoBlock(t, "a list around bytes", at, func(x thing) thing { return listThing(x) })
		wantNoBlock(t, "a list of nothing", at, func(thing) thing { return listThing(textThing("")) })
		wantNoBlock(t, "a list of bytes one by one", at, func(x thing) thing {
			var l []thing
			for i := range len(x.bytes) {
				l = append(l, textThing(x.bytes[i:i+1]))
			}
			return listThing(l...)
		})
	}
}

// P16.2: lists of too few parts, or too many.
func TestReadOfOtherCounts(t *testing.T) {
	for _, at := range []part{nil, {1, 0}, {1, 1}, {1, 0, 5, 0}, {1, 0, 5, 1}} {
		wantNoBlock(t, "a list of no parts", at, func(thing) thing { return listThing() })
		wantNoBlock(t, "a list of all parts twice", at, func(x thing) thing { return listThing(append(x.parts[:len(x.parts):len(x.parts)], x.parts...)...) })
		for _, more := range []thing{textThing(""), textThing("\x01"), listThing(), whole()} {
			wantNoBlock(t, "one more behind", at, func(x thing) thing { return listThing(append(x.parts[:len(x.parts):len(x.parts)], more)...) })
			wantNoBlock(t, "one more ahead", at, func(x thing) thing { return listThing(append([]thing{more}, x.parts...)...) })
		}
		wantNoBlock(t, "all but the last", at, func(x thing) thing { return listThing(x.parts[:len(x.parts)-1]...) })
		wantNoBlock(t, "all but the first", at, func(x thing) thing { return listThing(x.parts[1:]...) })
	}
	for _, at := range []part{{1}, {1, 0, 5}} {
		wantNoBlock(t, "all of a row twice", at, func(x thing) thing { return listThing(append(x.parts[:len(x.parts):len(x.parts)], x.parts...)...) })
		wantNoBlock(t, "a row the other way round", at, func(x thing) thing { return listThing(x.parts[1], x.parts[0]) })
		wantNoBlock(t, "nothing in a row", at, func(x thing) thing { return listThing(append(x.parts[:2:2], textThing(""))...) })
		wantNoBlock(t, "an empty list in a row", at, func(x thing) thing { return listThing(append(x.parts[:2:2], listThing())...) })
	}
}

// P16.2: numbers with a 0 ahead, or too great; kinds that are none; all that Check refuses.
func TestReadOfWrongTexts(t *testing.T) {
	put := func(at part, s string) {
		t.Helper()
		wantNoBlock(t, fmt.Sprintf("%x", s), at, func(thing) thing { return textThing(s) })
	}
	for _, s := range []string{"", "\x00", "\x00\x05", "\x00\x00\x00\x05", "\x80\x00\x00\x00", "\xff\xff\xff\xff", "\x01\x00\x00\x00\x00", "\x01\x00\x00\x00\x05", full(8), "\x80" + strings.Repeat("\x00", 7), strings.Repeat("\x01", 9), "\x05" + strings.Repeat("\x00", 8), full(32)} {
		put(part{0}, s)
	}
	for _, at := range []part{{1, 0, 2}, {1, 1, 2}} {
		for _, s := range []string{"\x00", "\x00\x03", strings.Repeat("\x00", 8), "\x00" + full(8), "\x01" + strings.Repeat("\x00", 8), full(9), full(32)} {
			put(at, s)
		}
	}
	for _, at := range []part{{1, 0, 3}, {1, 0, 5, 0, 1}, {1, 0, 5, 1, 1}} {
		for _, s := range []string{"\x00", "\x00\x07", "\x00" + full(31), full(33), strings.Repeat("\x00", 32)} {
			put(at, s)
		}
	}
	for kind := range 256 {
		if kind != 1 && kind != 2 {
			put(part{1, 0, 1}, string([]byte{byte(kind)}))
			put(part{1, 1, 1}, string([]byte{byte(kind)}))
		}
	}
	for _, s := range []string{"\x00\x01", "\x00\x02", "\x01\x01", "\x01\x02", "\x02\x01", "\x02\x00", "\x01\x00", full(2), full(60)} {
		put(part{1, 0, 1}, s)
		put(part{1, 1, 1}, s)
	}
	put(part{1, 0, 1}, "\x01")
	for _, at := range []part{{1, 1, 2}, {1, 1, 3}} {
		put(at, "\x01")
	}
	put(part{1, 1, 4}, hash(1))
	for _, s := range []string{"", "\x00", addr(1)[:19], addr(1) + "\x00", key(1), addr(2), addr(3)} {
		put(part{1, 0, 0}, s)
	}
	for _, s := range []string{"", key(1)[:31], key(1) + "\x00", addr(1), key(2), key(3)} {
		put(part{1, 0, 5, 0, 0}, s)
	}
	for _, s := range []string{"\x00", hash(1)[:31], hash(1) + "\x00"} {
		put(part{1, 0, 4}, s)
	}
}

// P16.2: heads of more bytes than are needed, within the block or around it.
func TestReadOfLongHeads(t *testing.T) {
	inner := "94" + aa + "01 80 80 80 c0"
	want(t, "Read of the right heads", readText(Read(unhex(t, "dd 02 db da"+inner))), readText(api.Block{Number: 2, Writes: []api.Write{{Addr: strings.Repeat("a", 20), Gone: true}}}, api.OK))
	for _, digits := range []string{
		"f8 03 81 02 c0", "c3 81 02 c0", "c3 02 f8 00", "f8 02 02 c0", "f9 00 02 02 c0", "c4 b8 01 02 c0",
		"f8 1d 02 db da" + inner, "de 02 f8 1b da" + inner, "de 02 dc f8 1a" + inner,
		"de 02 dc db b8 14" + aa + "01 80 80 80 c0", "de 02 dc db 94" + aa + "81 01 80 80 80 c0", "de 02 dc db 94" + aa + "01 80 80 80 f8 00", "de 02 dc db 94" + aa + "01 b8 00 80 80 c0",
	} {
		want(t, "Read of "+digits, readText(Read(unhex(t, digits))), noBlock)
	}
}

// P16.2: bytes that are no list of RLP at all, nest very deep, or are very many.
func TestReadOfNone(t *testing.T) {
	for _, s := range []string{
		"", "\x00", "\x01", "\x80", "\xc0", "\xc1\x01", "\xc1\xc0", "\xc2\x01\x80", "\xc2\x80\xc0", "\xc2\xc0\xc0", "\xc2\xc0\x01", "\xc2\x00\xc0", "\xc3\x01\xc0\xc0", "\xc3\x01\xc1\xc0", "\xc3\x01\xc1\x01", "\xc3\x01\xc1\x80", "\xff", "\xbf",
		full(9), "\xf8", "\xfb\xff\xff\xff\xff", strings.Repeat("\xc1", 16) + "\xc0", strings.Repeat("\xc1", 60000), strings.Repeat("\xc1", 1<<20), strings.Repeat("\x01", 1<<20), full(1 << 20),
	} {
		want(t, fmt.Sprintf("Read of %.99x", s), readText(Read(s)), noBlock)
	}
	deep := listThing()
	for range 30 {
		deep = listThing(deep)
	}
	want(t, "Read of lists in lists", readText(Read(ruleWritten(deep))), noBlock)
	want(t, "Read of such as Writes", readText(Read(ruleWritten(listThing(textThing("\x01"), deep)))), noBlock)
	many := listThing()
	for range 59900 {
		many.parts = append(many.parts, listThing())
	}
	want(t, "Read of very many empty lists as Writes", readText(Read(ruleWritten(listThing(textThing("\x01"), many)))), noBlock)
	for range 500000 {
		many.parts = append(many.parts, textThing("\x01"))
	}
	want(t, "Read of more than a block's bytes", readText(Read(ruleWritten(listThing(textThing("\x01"), many)))), noBlock)
}

// P16.2: short texts of some bytes are read as the rules say.
func TestReadOfShortTexts(t *testing.T) {
	some, found := "\x00\x01\x02\x7f\x80\x81\x82\xb8\xc0\xc1\xc2\xc3\xc4\xf8", 0
	var grow func(s string)
	grow = func(s string) {
		b, e := ruleRead(s)
		if got, rule := readText(Read(s)), readText(b, e); got != rule {
			t.Fatalf("Read of %x: %s, want %s", s, got, rule)
		}
		if e == api.OK {
			found++
		}
		if len(s) == 5 {
			return
		}
		for i := range len(some) {
			grow(s + some[i:i+1])
		}
	}
	grow("")
	if found < 20 {
		t.Errorf("only %d blocks were among them", found)
	}
}

// P16.2, P16.4: things by chance, nearly such as blocks are, are read as the rules say.
func TestReadByChance(t *testing.T) {
	r := rand.New(rand.NewSource(61))
	for range 20000 {
		x := ruleThing(someBlock(r))
		places := append(lists(), textParts()...)
		at := places[r.Intn(len(places))]
		if there(x, at) {
			x = changed(x, at, func(x thing) thing { return mixed(r, x) })
		}
		s := ruleWritten(x)
		b, e := ruleRead(s)
		want(t, fmt.Sprintf("Read of %x", s), readText(Read(s)), readText(b, e))
	}
}

// there is whether a thing has something at a place.
func there(x thing, at part) bool {
	for _, i := range at {
		if i >= len(x.parts) {
			return false
		}
		x = x.parts[i]
	}
	return true
}

// mixed is a thing that was changed by chance.
func mixed(r *rand.Rand, x thing) thing {
	switch r.Intn(5) {
	case 0:
		return listThing(append(x.parts[:len(x.parts):len(x.parts)], textThing(someText(r, r.Intn(3))))...)
	case 1:
		return listThing(x.parts[:len(x.parts)/2]...)
	case 2:
		return textThing(someText(r, r.Intn(40)))
	case 3:
		return textThing("\x00" + x.bytes)
	}
	return x
}

// R3: what Read tells is its owner's, and no two lists of it are one.
func TestReadsMemory(t *testing.T) {
	b := blocks()[len(blocks())-1]
	s, _ := Bytes(b)
	first, _ := Read(s)
	second, _ := Read(s)
	for _, w := range first.Writes {
		_ = append(w.Slots, api.Slot{Key: "x"}, api.Slot{Key: "y"})
	}
	_ = append(first.Writes, api.Write{Addr: "x"})
	want(t, "a block behind what was put behind its lists", text(first), text(b))
	first.Writes[0], first.Writes[2].Slots[0].Key, first.Writes[3].Addr = api.Write{}, "y", "x"
	want(t, "another block behind a change of one", text(second), text(b))
	want(t, "Read again", readText(Read(s)), readText(b, api.OK))
}
