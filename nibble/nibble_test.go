package nibble

import (
	"encoding/hex"
	"math/rand"
	"strings"
	"testing"

	"loess/api"
)

// notRows are texts with a byte above 15 at the beginning, in the middle, at the end.
var notRows = []string{"\x10", "\x10\x01", "\x01\x10", "\x01\x02\x10", "\x01\x10\x02\x03", "\xff", "\x0f\xff", "\x80\x00", "ab", "\x0f\x0f\x0f\x10"}

// shared are texts of all kinds: rows and others, one the beginning of the other, with bytes from 128 on.
var shared = []string{
	"", "\x00", "\x00\x00", "\x00\x01", "\x01", "\x01\x00", "\x01\x02", "\x01\x02\x03", "\x01\x02\x0f", "\x01\x03", "\x0f", "\x0f\x0f",
	"\x10", "\x7f", "\x7f\xff", "\x80", "\x80\x00", "\x80\x7f", "\x80\x80", "\xc3\xa9", "\xff", "\xff\x00", "\xff\xff",
}

func unhex(t *testing.T, s string) string {
	t.Helper()
	b, err := hex.DecodeString(strings.ReplaceAll(s, " ", ""))
	if err != nil {
		t.Fatal(err)
	}
	return string(b)
}

func wantBytes(t *testing.T, what, got, want string) {
	t.Helper()
	if got != want {
		t.Errorf("%s: %x, want %x", what, got, want)
	}
}

func packed(t *testing.T, n string, leaf bool) string {
	t.Helper()
	s, e := Pack(n, leaf)
	if e != api.OK {
		t.Errorf("Pack of %x, %v: error %d", n, leaf, e)
	}
	return s
}

func wantBytesOf(t *testing.T, n, want string, right bool) {
	t.Helper()
	s, ok := Bytes(n)
	if s != want || ok != right {
		t.Errorf("Bytes of %x: %x %v, want %x %v", n, s, ok, want, right)
	}
}

func wantNext(t *testing.T, n, want string, there bool) {
	t.Helper()
	s, ok := Next(n)
	if s != want || ok != there {
		t.Errorf("Next of %x: %x %v, want %x %v", n, s, ok, want, there)
	}
}

func wantUnpack(t *testing.T, s, want string, wantLeaf bool) {
	t.Helper()
	n, leaf, e := Unpack(s)
	if n != want || leaf != wantLeaf || e != api.OK {
		t.Errorf("Unpack of %x: %x %v error %d, want %x %v", s, n, leaf, e, want, wantLeaf)
	}
}

func wantNoPack(t *testing.T, s string) {
	t.Helper()
	n, leaf, e := Unpack(s)
	if n != "" || leaf || e != api.ErrForm {
		t.Errorf("Unpack of %x: %x %v error %d, want no row and error %d", s, n, leaf, e, api.ErrForm)
	}
}

// everyByte is all 256 of them.
func everyByte() string {
	b := make([]byte, 256)
	for i := range b {
		b[i] = byte(i)
	}
	return string(b)
}

// P3.1: the chapter's example, and each byte by itself: its digits are its halves.
func TestOf(t *testing.T) {
	wantBytes(t, "Of 1a2b", Of("\x1a\x2b"), "\x01\x0a\x02\x0b")
	wantBytes(t, "Of nothing", Of(""), "")
	for _, b := range []byte(everyByte()) {
		s := string([]byte{b})
		wantBytes(t, "Of a byte", Of(s), ruleRow(hex.EncodeToString([]byte{b})))
		wantBytesOf(t, Of(s), s, true)
	}
	all := everyByte()
	wantBytes(t, "Of all bytes", Of(all), ruleRow(hex.EncodeToString([]byte(all))))
	wantBytesOf(t, Of(all), all, true)
}

// P3.1: Bytes of rows; each row of two nibbles is a byte's.
func TestBytes(t *testing.T) {
	wantBytesOf(t, "", "", true)
	wantBytesOf(t, "\x01\x0a\x02\x0b", "\x1a\x2b", true)
	for _, n := range ruleRows(4) {
		if len(n)%2 != 0 {
			wantBytesOf(t, n, "", false)
			continue
		}
		d, _ := ruleDigits(n)
		wantBytesOf(t, n, unhex(t, d), true)
	}
}

// P3.1: texts that are no bytes' row, of even and odd lengths.
func TestBytesOfNone(t *testing.T) {
	wantBytesOf(t, "\x01", "", false)
	wantBytesOf(t, "\x01\x02\x03", "", false)
	for _, n := range notRows {
		wantBytesOf(t, n, "", false)
		wantBytesOf(t, n+"\x00", "", false)
		wantBytesOf(t, "\x00"+n, "", false)
	}
}

// P3.1: 15 is a nibble, 16 is none, wherever it stands.
func TestRight(t *testing.T) {
	if !Right("") {
		t.Error("no nibble is a row")
	}
	for b := range 256 {
		for _, ahead := range []string{"", "\x00", "\x0f\x0f"} {
			for _, behind := range []string{"", "\x00", "\x0f\x0f"} {
				n := ahead + string([]byte{byte(b)}) + behind
				if got := Right(n); got != (b <= 15) {
					t.Errorf("Right of %x: %v", n, got)
				}
			}
		}
	}
	for _, n := range notRows {
		if Right(n) {
			t.Errorf("%x is no row", n)
		}
	}
}

// P3.1: nothing shared, one the beginning of the other, equal ones; texts that are no rows too.
func TestPrefix(t *testing.T) {
	for _, c := range []struct {
		a, b string
		want int
	}{
		{"", "", 0},
		{"", "\x01", 0},
		{"\x01", "\x02", 0},
		{"\x01\x02", "\x03\x02", 0},
		{"\x01\x02", "\x01\x03", 1},
		{"\x01\x02\x03", "\x01\x03\x03", 1},
		{"\x01\x02", "\x01\x02\x03", 2},
		{"\x01\x02\x03", "\x01\x02\x03", 3},
		{"\xff\x80\x10", "\xff\x80\x11", 2},
	} {
		if got := Prefix(c.a, c.b); got != c.want {
			t.Errorf("Prefix of %x and %x: %d, want %d", c.a, c.b, got, c.want)
		}
		if got := Prefix(c.b, c.a); got != c.want {
			t.Errorf("Prefix of %x and %x: %d, want %d", c.b, c.a, got, c.want)
		}
	}
	for _, a := range shared {
		for _, b := range shared {
			k := Prefix(a, b)
			if k > len(a) || k > len(b) || a[:k] != b[:k] || k < len(a) && k < len(b) && a[k] == b[k] {
				t.Errorf("Prefix of %x and %x: %d", a, b, k)
			}
		}
	}
}

// P3.2: the chapter's examples, and those of no nibble.
func TestPackKnown(t *testing.T) {
	for _, c := range []struct {
		n    string
		leaf bool
		want string
	}{
		{"\x01\x02\x03\x04\x05", false, "11 23 45"},
		{"\x00\x01\x02\x03\x04\x05", false, "00 01 23 45"},
		{"\x0f\x01\x0c\x0b\x08", true, "3f 1c b8"},
		{"\x00\x0f\x01\x0c\x0b\x08", true, "20 0f 1c b8"},
		{"", false, "00"},
		{"", true, "20"},
		{"\x00", false, "10"},
		{"\x0f", false, "1f"},
		{"\x00", true, "30"},
		{"\x0f", true, "3f"},
		{"\x00\x00", false, "00 00"},
		{"\x0f\x0f", true, "20 ff"},
	} {
		wantBytes(t, "Pack", packed(t, c.n, c.leaf), unhex(t, c.want))
		wantUnpack(t, unhex(t, c.want), c.n, c.leaf)
	}
}

// P3.2 and P3.4: Pack of every short row, and back again.
func TestPackOfAll(t *testing.T) {
	for _, n := range ruleRows(4) {
		for _, leaf := range []bool{false, true} {
			s := packed(t, n, leaf)
			if d := hex.EncodeToString([]byte(s)); d != rulePack(n, leaf) {
				t.Errorf("Pack of %x, %v: %s, want %s", n, leaf, d, rulePack(n, leaf))
			}
			wantUnpack(t, s, n, leaf)
		}
	}
}

// P3.2: a text that is no row has no Pack, wherever the wrong byte stands.
func TestPackOfNoRow(t *testing.T) {
	for _, n := range notRows {
		for _, text := range []string{n, "\x00" + n, n + "\x00"} {
			for _, leaf := range []bool{false, true} {
				if s, e := Pack(text, leaf); s != "" || e != api.ErrArg {
					t.Errorf("Pack of %x, %v: %x error %d", text, leaf, s, e)
				}
			}
		}
	}
}

// P3.2: each way in which bytes are none's Pack.
func TestUnpackOfNone(t *testing.T) {
	wantNoPack(t, "")
	for first := range 256 {
		odd, flagRight := first/16%2 == 1, first/16 <= 3
		for _, rest := range []string{"", "\x00", "\x12", "\xff\xff"} {
			s := string([]byte{byte(first)}) + rest
			if flagRight && (odd || first%16 == 0) {
				continue
			}
			wantNoPack(t, s)
		}
	}
}

// P3.2: of all texts of at most two bytes, those that are a row's Pack are read as that row, the others as none.
func TestUnpackOfAll(t *testing.T) {
	type told struct {
		row  string
		leaf bool
	}
	packs := map[string]told{}
	for _, n := range ruleRows(3) {
		for _, leaf := range []bool{false, true} {
			packs[unhex(t, rulePack(n, leaf))] = told{n, leaf}
		}
	}
	for a := range 256 {
		texts := []string{string([]byte{byte(a)})}
		for b := range 256 {
			texts = append(texts, string([]byte{byte(a), byte(b)}))
		}
		for _, s := range texts {
			if p, ok := packs[s]; ok {
				wantUnpack(t, s, p.row, p.leaf)
			} else {
				wantNoPack(t, s)
			}
		}
	}
}

// P3.3: the chapter's examples, rows that end in 15, rows of 15 alone, no nibble, no row.
func TestNextKnown(t *testing.T) {
	wantNext(t, "\x01\x02\x0f", "\x01\x03", true)
	wantNext(t, "\x0f", "", false)
	wantNext(t, "\x0f\x0f", "", false)
	wantNext(t, strings.Repeat("\x0f", 64), "", false)
	wantNext(t, "", "", false)
	wantNext(t, "\x00", "\x01", true)
	wantNext(t, "\x0e", "\x0f", true)
	wantNext(t, "\x0e\x0f", "\x0f", true)
	wantNext(t, "\x01\x0f\x0f", "\x02", true)
	wantNext(t, "\x0f\x00", "\x0f\x01", true)
	wantNext(t, "\x0f\x03\x0f\x0f", "\x0f\x04", true)
	wantNext(t, "\x00"+strings.Repeat("\x0f", 63), "\x01", true)
	for _, n := range notRows {
		wantNext(t, n, "", false)
		wantNext(t, "\x01"+n, "", false)
		wantNext(t, n+"\x01", "", false)
	}
}

// P3.3: of all rows of at most three nibbles the least that stands behind all that begin with n; the answer is never longer than n, so that these are enough.
func TestNextIsLeast(t *testing.T) {
	rows := ruleRows(3)
	for _, n := range ruleRows(2) {
		least, found := "", false
		for _, row := range rows {
			if ruleBehind(row, n) && (!found || ruleBefore(row, least)) {
				least, found = row, true
			}
		}
		wantNext(t, n, least, found)
	}
}

// P3.3: equal texts, one the beginning of the other, bytes from 128 on.
func TestLess(t *testing.T) {
	for _, a := range shared {
		for _, b := range shared {
			if got := Less(a, b); got != ruleBefore(a, b) {
				t.Errorf("Less of %x and %x: %v", a, b, got)
			}
		}
	}
	for i := 1; i < len(shared); i++ {
		if !Less(shared[i-1], shared[i]) || Less(shared[i], shared[i-1]) || Less(shared[i], shared[i]) {
			t.Errorf("%x stands ahead of %x", shared[i-1], shared[i])
		}
	}
}

// P3.4: rows of bytes stand as the bytes do.
func TestOfKeepsOrder(t *testing.T) {
	texts := append([]string{everyByte(), "\x0f\xf0", "\x0f", "\xf0", "\x10", "\x01\x00"}, shared...)
	draw := rand.New(rand.NewSource(3))
	for range 200 {
		texts = append(texts, drawn(draw, 4, 256))
	}
	for _, a := range texts {
		for _, b := range texts {
			if Less(Of(a), Of(b)) != Less(a, b) {
				t.Errorf("Of %x and of %x do not stand as these do", a, b)
			}
			if k := Prefix(Of(a), Of(b)); k/2 != Prefix(a, b) {
				t.Errorf("Of %x and of %x share %d nibbles", a, b, k)
			}
		}
	}
}

// drawn is a text of at most so many bytes, each below a bound.
func drawn(draw *rand.Rand, most, below int) string {
	b := make([]byte, draw.Intn(most+1))
	for i := range b {
		b[i] = byte(draw.Intn(below))
	}
	return string(b)
}

// P3.4: long rows come back.
func TestPackAndBack(t *testing.T) {
	draw := rand.New(rand.NewSource(4))
	for range 2000 {
		n := drawn(draw, 130, 16)
		for _, leaf := range []bool{false, true} {
			s := packed(t, n, leaf)
			wantBytes(t, "Pack", s, unhex(t, rulePack(n, leaf)))
			wantUnpack(t, s, n, leaf)
		}
		if len(n)%2 == 0 {
			s, _ := Bytes(n)
			wantBytes(t, "Of Bytes", Of(s), n)
		}
	}
}

// R5: no text is too long.
func TestLong(t *testing.T) {
	s := strings.Repeat(everyByte(), 1<<12)
	n := Of(s)
	wantLong := func(what string, ok bool) {
		t.Helper()
		if !ok {
			t.Errorf("%s of a long text is wrong", what)
		}
	}
	b, ok := Bytes(n)
	wantLong("Bytes", ok && b == s)
	wantLong("Right", Right(n) && !Right(n+"\x10"))
	wantLong("Prefix", Prefix(n, n+"\x00") == len(n))
	wantLong("Less", Less(n, n+"\x00") && !Less(n, n))
	p, e := Pack(n, true)
	wantLong("Pack", e == api.OK && p == "\x20"+s)
	row, leaf, e := Unpack(p)
	wantLong("Unpack", e == api.OK && leaf && row == n)
	next, ok := Next("\x01" + strings.Repeat("\x0f", 1<<20))
	wantLong("Next", ok && next == "\x02")
}

// P1: every call ends at any text, and what it tells holds together.
func FuzzAll(f *testing.F) {
	for _, s := range append(notRows, shared...) {
		f.Add(s, "\x01\x02\x0f")
		f.Add("\x3f\x1c\xb8", s)
	}
	f.Fuzz(func(t *testing.T, a, b string) {
		wantBytesOf(t, Of(a), a, true)
		if Less(a, b) != ruleBefore(a, b) || Less(Of(a), Of(b)) != Less(a, b) {
			t.Errorf("the order of %x and %x is wrong", a, b)
		}
		if k := Prefix(a, b); a[:k] != b[:k] {
			t.Errorf("%x and %x do not share %d bytes", a, b, k)
		}
		if n, leaf, e := Unpack(a); e == api.OK {
			wantBytes(t, "Pack of Unpack", packed(t, n, leaf), a)
		}
		if s, e := Pack(a, true); Right(a) {
			wantUnpack(t, s, a, true)
		} else if s != "" || e != api.ErrArg {
			t.Errorf("Pack of %x: %x error %d", a, s, e)
		}
		there := Right(a) && strings.Trim(a, "\x0f") != ""
		if n, ok := Next(a); ok != there || ok && (!ruleBehind(n, a) || !Right(n)) || !ok && n != "" {
			t.Errorf("Next of %x: %x %v", a, n, ok)
		}
	})
}
