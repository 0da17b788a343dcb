package mask

import (
	"encoding/hex"
	"fmt"
	"math"
	"strings"
	"testing"

	"loess/api"
)

func want[T comparable](t *testing.T, what string, got, want T) {
	t.Helper()
	if got != want {
		t.Errorf("%s: %.900s, want %.900s", what, fmt.Sprint(got), fmt.Sprint(want))
	}
}

func unhex(t *testing.T, digits string) string {
	t.Helper()
	b, err := hex.DecodeString(strings.ReplaceAll(digits, " ", ""))
	if err != nil {
		t.Fatal(err)
	}
	return string(b)
}

// noNibbles are numbers that are no nibbles: beside them, and such as have a nibble's lower bits.
func noNibbles() []int {
	return []int{
		-1, -2, -15, -16, -17, -32, -64, -65536, math.MinInt32, math.MinInt32 + 1, math.MinInt, math.MinInt + 1, math.MinInt + 15,
		16, 17, 31, 32, 47, 48, 63, 64, 65, 79, 128, 255, 256, 257, 65535, 65536, 65537, math.MaxInt32, 1 << 31, 1 << 32, 1<<32 + 1, 1<<32 + 15, 1 << 62, math.MaxInt - 15, math.MaxInt,
	}
}

// sum is a hash that begins with a byte, and goes on with others by which each byte can be told from those beside it.
func sum(first byte) [32]byte {
	var h [32]byte
	for i := range h {
		h[i] = first + byte(7*i)
	}
	return h
}

// sums is a list of such hashes.
func sums(first ...byte) [][32]byte {
	var l [][32]byte
	for _, b := range first {
		l = append(l, sum(b))
	}
	return l
}

// numbered is as many hashes as one likes, each another one.
func numbered(count int) [][32]byte {
	var l [][32]byte
	for i := range count {
		l = append(l, sum(byte(100+i)))
	}
	return l
}

// hexOf is a hash as digits.
func hexOf(first byte) string {
	h := sum(first)
	return hex.EncodeToString(h[:])
}

// refOf is the ref of 33 bytes that a hash is.
func refOf(first byte) string {
	h := sum(first)
	return "\xa0" + string(h[:])
}

// text is all that a branch has.
func text(b api.Branch) string {
	return fmt.Sprintf("%04x %04x %04x %d %x", b.State, b.Tree, b.Hash, len(b.Hashes), b.Hashes)
}

func recordText(s string, e api.Errno) string { return fmt.Sprintf("%x %d", s, int(e)) }

func readText(b api.Branch, e api.Errno) string { return fmt.Sprintf("%s %d", text(b), int(e)) }

func hashText(h [32]byte, ok bool) string { return fmt.Sprintf("%x %v", h, ok) }

const (
	noRecord = " 1" // ErrArg, and no text
	noBranch = "0000 0000 0000 0 [] 10"
	noHash   = "0000000000000000000000000000000000000000000000000000000000000000 false"
)

// branches are some that may be: with no nibble in Tree and Hash, one, some, all, at both ends and in the middle.
func branches() []api.Branch {
	return []api.Branch{
		{State: 0x8002},
		{State: 0x0003},
		{State: 0xc000, Tree: 0xc000},
		{State: 0x0003, Hash: 0x0001, Hashes: sums(1)},
		{State: 0x0003, Hash: 0x0002, Hashes: sums(1)},
		{State: 0xc000, Tree: 0x4000, Hash: 0x8000, Hashes: sums(9)},
		{State: 0x8006, Tree: 0x0002, Hash: 0x8002, Hashes: sums(1, 2)},
		{State: 0x8001, Tree: 0x8001, Hash: 0x8001, Hashes: sums(2, 1)},
		{State: 0x0ff0, Tree: 0x0550, Hash: 0x03c0, Hashes: sums(4, 3, 2, 1)},
		{State: 0x0180, Tree: 0x0100, Hash: 0x0180, Hashes: sums(5, 5)},
		{State: 0xffff},
		{State: 0xffff, Tree: 0xffff},
		{State: 0xffff, Tree: 0x5555, Hash: 0xaaaa, Hashes: numbered(8)},
		{State: 0xffff, Tree: 0xffff, Hash: 0xffff, Hashes: numbered(16)},
	}
}

// refs are all kinds: nothing, short ones, those beside 33 bytes, those of 33 bytes whose first byte is the right one and such as are not.
func refs() []string {
	tail := refOf(77)[1:]
	return []string{
		"", "\x80", "\xa0", "\x00", "\xc2\x80\x80", strings.Repeat("\xa0", 31), "\xa0" + tail[:31], tail, "\xa0" + tail + "\x00", strings.Repeat("\xa0", 66),
		refOf(77), refOf(0), strings.Repeat("\xa0", 33), "\xa0" + strings.Repeat("\x00", 32), "\xa0" + strings.Repeat("\xff", 32),
		"\xa1" + tail, "\x9f" + tail, "\x00" + tail, "\x20" + tail, "\xff" + tail, "\xe0" + tail, "\xf8" + tail,
	}
}
