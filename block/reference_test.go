package block

import (
	"math/rand"
	"strings"

	"loess/api"
)

// thing is bytes, or a list of things.
type thing struct {
	list  bool
	bytes string
	parts []thing
}

func textThing(s string) thing { return thing{bytes: s} }

func listThing(l ...thing) thing { return thing{list: true, parts: l} }

// ruleHead is the head of chapter 2: for n below 56 one byte, else how many bytes n has, and these.
func ruleHead(base, n int) string {
	if n < 56 {
		return string([]byte{byte(base + n)})
	}
	size := ruleNumber(uint64(n))
	return string([]byte{byte(base + 55 + len(size))}) + size
}

// ruleNumber is n's bytes, by dividing.
func ruleNumber(n uint64) string {
	s := ""
	for ; n > 0; n /= 256 {
		s = string([]byte{byte(n % 256)}) + s
	}
	return s
}

// ruleWritten is a thing as bytes.
func ruleWritten(x thing) string {
	if !x.list {
		if len(x.bytes) == 1 && x.bytes[0] < 128 {
			return x.bytes
		}
		return ruleHead(128, len(x.bytes)) + x.bytes
	}
	var all strings.Builder
	for _, p := range x.parts {
		all.WriteString(ruleWritten(p))
	}
	return ruleHead(192, all.Len()) + all.String()
}

// ruleFirst reads the thing that s begins with, whatever its head is like: from says where it begins, end where it ends.
func ruleFirst(s string) (list bool, from, end int, ok bool) {
	if s == "" {
		return false, 0, 0, false
	}
	first := int(s[0])
	if first < 128 {
		return false, 0, 1, true
	}
	list = first >= 192
	n := (first - 128) % 64
	from = 1
	if n >= 56 {
		long := n - 55
		if len(s) < 1+long {
			return false, 0, 0, false
		}
		n = 0
		for _, b := range []byte(s[1 : 1+long]) {
			if n > len(s) {
				return false, 0, 0, false
			}
			n = 256*n + int(b)
		}
		from = 1 + long
	}
	return list, from, from + n, from+n <= len(s)
}

// ruleParts is the row of things that s is, each as it stands in s.
func ruleParts(s string) ([]string, bool) {
	var l []string
	for s != "" {
		_, _, end, ok := ruleFirst(s)
		if !ok {
			return nil, false
		}
		l, s = append(l, s[:end]), s[end:]
	}
	return l, true
}

// ruleBytesOf is the bytes that s is as a thing, and nothing else.
func ruleBytesOf(s string) (string, bool) {
	list, from, end, ok := ruleFirst(s)
	if !ok || list || end != len(s) || ruleWritten(textThing(s[from:])) != s {
		return "", false
	}
	return s[from:], true
}

// ruleListOf is the things of the list that s is, each as it stands in s.
func ruleListOf(s string) ([]string, bool) {
	list, from, end, ok := ruleFirst(s)
	if !ok || !list || end != len(s) || ruleHead(192, end-from) != s[:from] {
		return nil, false
	}
	return ruleParts(s[from:])
}

// ruleUint is the number that s is, as a thing of bytes.
func ruleUint(s string) (uint64, bool) {
	b, ok := ruleBytesOf(s)
	if !ok || len(b) > 8 || b != "" && b[0] == 0 {
		return 0, false
	}
	n := uint64(0)
	for _, x := range []byte(b) {
		n = 256*n + uint64(x)
	}
	return n, true
}

// ruleThing is the chapter's P16.2: what a block is, as a thing.
func ruleThing(b api.Block) thing {
	writes := listThing()
	for _, w := range b.Writes {
		slots := listThing()
		for _, s := range w.Slots {
			slots.parts = append(slots.parts, listThing(textThing(s.Key), textThing(s.Value)))
		}
		kind := ""
		if w.Reset {
			kind = "\x02"
		}
		if w.Gone {
			kind = "\x01"
		}
		writes.parts = append(writes.parts, listThing(textThing(w.Addr), textThing(kind), textThing(ruleNumber(w.Nonce)), textThing(w.Balance), textThing(w.Code), slots))
	}
	return listThing(textThing(ruleNumber(uint64(b.Number))), writes)
}

func ruleBytes(b api.Block) string { return ruleWritten(ruleThing(b)) }

// ruleIsNumber is chapter 4's: is s a number?
func ruleIsNumber(s string) bool { return len(s) <= 32 && strings.TrimLeft(s, "\x00") == s }

// ruleCheck is the chapter's P16.1.
func ruleCheck(b api.Block) api.Errno {
	if b.Number < 1 || b.Number > 2147483647 || len(b.Writes) > 64 {
		return api.ErrBlock
	}
	for i, w := range b.Writes {
		if len(w.Addr) != 20 || i > 0 && b.Writes[i-1].Addr >= w.Addr {
			return api.ErrBlock
		}
		if !ruleIsNumber(w.Balance) || w.Code != "" && len(w.Code) != 32 || len(w.Slots) > 64 {
			return api.ErrBlock
		}
		for j, s := range w.Slots {
			if len(s.Key) != 32 || j > 0 && w.Slots[j-1].Key >= s.Key || !ruleIsNumber(s.Value) {
				return api.ErrBlock
			}
		}
		if w.Gone && (w.Reset || w.Nonce > 0 || w.Balance+w.Code != "" || len(w.Slots) > 0) {
			return api.ErrBlock
		}
	}
	if len(ruleBytes(b)) > 60000 {
		return api.ErrBlock
	}
	return api.OK
}

// ruleRead asks each part of s by itself, and nothing of s as a whole but its size.
func ruleRead(s string) (api.Block, api.Errno) {
	b, ok := ruleBlock(s)
	if !ok || ruleCheck(b) != api.OK {
		return api.Block{}, api.ErrForm
	}
	return b, api.OK
}

func ruleBlock(s string) (api.Block, bool) {
	l, ok := ruleListOf(s)
	if !ok || len(l) != 2 {
		return api.Block{}, false
	}
	number, one := ruleUint(l[0])
	writes, two := ruleListOf(l[1])
	if !one || !two || number > 2147483647 {
		return api.Block{}, false
	}
	b := api.Block{Number: int(number)}
	for _, x := range writes {
		w, ok := ruleWrite(x)
		if !ok {
			return api.Block{}, false
		}
		b.Writes = append(b.Writes, w)
	}
	return b, true
}

func ruleWrite(s string) (api.Write, bool) {
	l, ok := ruleListOf(s)
	if !ok || len(l) != 6 {
		return api.Write{}, false
	}
	var texts [5]string
	for i := range texts {
		if texts[i], ok = ruleBytesOf(l[i]); !ok {
			return api.Write{}, false
		}
	}
	nonce, one := ruleUint(l[2])
	slots, two := ruleListOf(l[5])
	if !one || !two || texts[1] != "" && texts[1] != "\x01" && texts[1] != "\x02" {
		return api.Write{}, false
	}
	w := api.Write{Addr: texts[0], Gone: texts[1] == "\x01", Reset: texts[1] == "\x02", Nonce: nonce, Balance: texts[3], Code: texts[4]}
	for _, x := range slots {
		parts, ok := ruleListOf(x)
		if !ok || len(parts) != 2 {
			return api.Write{}, false
		}
		key, one := ruleBytesOf(parts[0])
		value, two := ruleBytesOf(parts[1])
		if !one || !two {
			return api.Write{}, false
		}
		w.Slots = append(w.Slots, api.Slot{Key: key, Value: value})
	}
	return w, true
}

// someText is bytes by chance, of some length that is often, but not always, the right one.
func someText(r *rand.Rand, size int) string {
	if r.Intn(12) == 0 {
		size += r.Intn(3) - 1
	}
	b := make([]byte, max(size, 0))
	r.Read(b)
	return string(b)
}

// someNumber is a number by chance; sometimes it is none.
func someNumber(r *rand.Rand) string {
	s := someText(r, r.Intn(33))
	if r.Intn(12) > 0 {
		s = strings.TrimLeft(s, "\x00")
	}
	return s
}

// someBlock is one by chance. Many may be, many may not, by one thing or by several.
func someBlock(r *rand.Rand) api.Block {
	b := api.Block{Number: r.Intn(1 << (1 + r.Intn(31)))}
	if r.Intn(12) == 0 {
		b.Number = -b.Number
	}
	for i := range r.Intn(4) {
		w := api.Write{Addr: string([]byte{byte(60*i + r.Intn(65))}) + someText(r, 19), Gone: r.Intn(4) == 0}
		if w.Gone && r.Intn(20) > 0 {
			b.Writes = append(b.Writes, w)
			continue
		}
		w.Reset, w.Nonce, w.Balance = r.Intn(3) == 0, r.Uint64()>>r.Intn(65), someNumber(r)
		if r.Intn(2) == 0 {
			w.Code = someText(r, 32)
		}
		for j := range r.Intn(4) {
			w.Slots = append(w.Slots, api.Slot{Key: string([]byte{byte(60*j + r.Intn(63))}) + someText(r, 31), Value: someNumber(r)})
		}
		b.Writes = append(b.Writes, w)
	}
	return b
}
