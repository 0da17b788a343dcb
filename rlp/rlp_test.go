package rlp

import (
	"encoding/hex"
	"math"
	"math/rand"
	"strings"
	"testing"

	"loess/api"
)

// unhex is the bytes of hexadecimal digits; blanks between them do not count.
func unhex(t *testing.T, digits string) string {
	t.Helper()
	b, err := hex.DecodeString(strings.ReplaceAll(digits, " ", ""))
	if err != nil {
		t.Fatal(err)
	}
	return string(b)
}

func wantBytes(t *testing.T, what, got, want string) {
	t.Helper()
	if got == want {
		return
	}
	if len(got)+len(want) > 200 {
		t.Errorf("%s: %d bytes, want %d others", what, len(got), len(want))
		return
	}
	t.Errorf("%s: %x, want %x", what, got, want)
}

func wantError(t *testing.T, what string, got, want api.Errno) {
	t.Helper()
	if got != want {
		t.Errorf("%s: error %d, want %d", what, got, want)
	}
}

func text(s string) api.Item          { return api.Item{Bytes: s} }
func list(items ...api.Item) api.Item { return api.Item{List: true, Items: items} }
func written(x api.Item) string       { s, _ := Encode(x); return s }
func wrapped(n int, x api.Item) api.Item {
	for range n {
		x = list(x)
	}
	return x
}

// sizes are those at which heads change.
var sizes = []int{0, 1, 2, 54, 55, 56, 57, 127, 128, 254, 255, 256, 257, 65535, 65536, 1<<24 - 1, 1 << 24}

// P2.1: the chapter's examples, and known ones.
func TestBytesKnown(t *testing.T) {
	for _, c := range []struct{ in, want string }{
		{"", "80"},
		{hex.EncodeToString([]byte("a")), "61"},
		{hex.EncodeToString([]byte("dog")), "83 64 6f 67"},
		{"00", "00"},
		{"7f", "7f"},
		{"80", "81 80"},
		{"ff", "81 ff"},
		{"0000", "82 00 00"},
		{"0400", "82 04 00"},
	} {
		wantBytes(t, "Bytes of "+c.in, Bytes(unhex(t, c.in)), unhex(t, c.want))
	}
	long := "Lorem ipsum dolor sit amet, consectetur adipisicing elit"
	wantBytes(t, "Bytes of 56", Bytes(long), "\xb8\x38"+long)
}

// P2.1: each single byte is itself, or has a head.
func TestBytesOfOne(t *testing.T) {
	for b := range 256 {
		s := string([]byte{byte(b)})
		want := s
		if b >= 128 {
			want = "\x81" + s
		}
		wantBytes(t, "Bytes of one", Bytes(s), want)
	}
}

// P2.1: the heads at their edges, written out.
func TestHeads(t *testing.T) {
	for _, c := range []struct {
		n           int
		texts, rows string
	}{
		{0, "80", "c0"},
		{2, "82", "c2"},
		{55, "b7", "f7"},
		{56, "b838", "f838"},
		{255, "b8ff", "f8ff"},
		{256, "b90100", "f90100"},
		{65535, "b9ffff", "f9ffff"},
		{65536, "ba010000", "fa010000"},
		{1<<24 - 1, "baffffff", "faffffff"},
		{1 << 24, "bb01000000", "fb01000000"},
	} {
		s := strings.Repeat("x", c.n)
		wantBytes(t, "Bytes", Bytes(s), unhex(t, c.texts)+s)
		wantBytes(t, "List", List(s), unhex(t, c.rows)+s)
	}
	wantBytes(t, "List of a single byte", List("x"), "\xc1x")
}

// P2.1: payloads go behind one another, and are not looked at.
func TestList(t *testing.T) {
	wantBytes(t, "List()", List(), "\xc0")
	wantBytes(t, "List of nil", List(nil...), "\xc0")
	wantBytes(t, "List of empty ones", List("", "", ""), "\xc0")
	wantBytes(t, "List(cat, dog)", List(Bytes("cat"), Bytes("dog")), unhex(t, "c8 83 63 61 74 83 64 6f 67"))
	wantBytes(t, "List of what is no thing", List("\x83", "", "\xff\xff"), "\xc3\x83\xff\xff")
	wantBytes(t, "List of two of 28", List(strings.Repeat("a", 28), strings.Repeat("b", 28)), "\xf8\x38"+strings.Repeat("a", 28)+strings.Repeat("b", 28))
	parts := make([]string, 1000)
	for i := range parts {
		parts[i] = Bytes(strings.Repeat("y", i%300))
	}
	all := strings.Join(parts, "")
	wantBytes(t, "List of 1000", List(parts...), ruleList(all))
	wantBytes(t, "what was handed in", strings.Join(parts, ""), all)
}

// P2.1: whole things.
func TestEncode(t *testing.T) {
	for _, c := range []struct {
		x    api.Item
		want string
	}{
		{api.Item{}, "80"},
		{api.Item{Items: []api.Item{}}, "80"},
		{text("\x00"), "00"},
		{text("\x80"), "8180"},
		{list(), "c0"},
		{api.Item{List: true, Items: []api.Item{}}, "c0"},
		{list(text("cat"), text("dog")), "c8 83636174 83646f67"},
		{list(list(), list(list()), list(list(), list(list()))), "c7 c0 c1c0 c3c0c1c0"},
		{list(text("a"), list(text(""), text("b")), text("\xff")), "c6 61 c2 80 62 81ff"},
	} {
		s, e := Encode(c.x)
		wantError(t, "Encode", e, api.OK)
		wantBytes(t, "Encode", s, unhex(t, c.want))
	}
	for _, n := range sizes {
		s := strings.Repeat("z", n)
		wantBytes(t, "Encode of a text", written(text(s)), ruleText(s))
		wantBytes(t, "Encode of a list of a text", written(list(text(s))), ruleList(ruleText(s)))
	}
}

// P2.1, R2: what may not be; nothing is told beside the error.
func TestEncodeWrong(t *testing.T) {
	wrong := []api.Item{
		{List: true, Bytes: "a"},
		{List: true, Bytes: "a", Items: []api.Item{{}}},
		{List: true, Bytes: "\x00"},
		{Items: []api.Item{{}}},
		{Bytes: "a", Items: []api.Item{{}}},
		{Bytes: "a", Items: []api.Item{{List: true}}},
		wrapped(api.MaxItems, text("")),
		wrapped(api.MaxItems, list()),
		wrapped(3*api.MaxItems, text("a")),
	}
	for i, x := range wrong {
		for _, y := range []api.Item{x, list(text("a"), x), list(x, text("a")), list(list(), list(text("b"), list(x)))} {
			s, e := Encode(y)
			if e != api.ErrArg || s != "" {
				t.Errorf("Encode of wrong thing %d: %x, error %d", i, s, e)
			}
		}
	}
}

// P2.1, P2.2: the depth counts from 1, for texts and lists alike.
func TestDepth(t *testing.T) {
	for depth := 1; depth <= api.MaxItems+2; depth++ {
		for _, x := range []api.Item{text(""), text("a"), text("dog"), list()} {
			x = wrapped(depth-1, x)
			for _, y := range []api.Item{x, list(text("a"), x)} {
				deep := depth
				if len(y.Items) == 2 {
					deep++
				}
				s, e := Encode(y)
				back, f := Decode(ruleWrite(y))
				if deep <= api.MaxItems {
					wantError(t, "Encode", e, api.OK)
					wantBytes(t, "Encode", s, ruleWrite(y))
					wantError(t, "Decode", f, api.OK)
					if !same(back, y) {
						t.Errorf("depth %d: %#v was read, want %#v", deep, back, y)
					}
					continue
				}
				wantError(t, "Encode too deep", e, api.ErrArg)
				wantError(t, "Decode too deep", f, api.ErrForm)
				wantBytes(t, "Encode too deep", s, "")
				if !same(back, api.Item{}) {
					t.Errorf("depth %d: %#v beside an error", deep, back)
				}
			}
		}
	}
}

// P1: a list that has itself is too deep, as every other one.
func TestEncodeOfItself(t *testing.T) {
	items := []api.Item{text("a"), list(), {List: true}}
	items[2].Items = items
	_, e := Encode(list(items...))
	wantError(t, "Encode", e, api.ErrArg)
}

// P2.2: the first thing, and what stands behind it.
func TestSplitKnown(t *testing.T) {
	for _, c := range []struct {
		in, payload string
		list        bool
		rest        string
	}{
		{"80", "", false, ""},
		{"c0", "", true, ""},
		{"00", "00", false, ""},
		{"61", "61", false, ""},
		{"7f80", "7f", false, "80"},
		{"8180", "80", false, ""},
		{"81ff00", "ff", false, "00"},
		{"83646f67c0", "646f67", false, "c0"},
		{"c161", "61", true, ""},
		{"c180", "80", true, ""},
		{"c201027879", "0102", true, "7879"},
		{"c181", "81", true, ""},
		{"c0ff", "", true, "ff"},
		{"80b8", "", false, "b8"},
	} {
		payload, isList, rest, e := Split(unhex(t, c.in))
		wantError(t, "Split of "+c.in, e, api.OK)
		wantBytes(t, "payload of "+c.in, payload, unhex(t, c.payload))
		wantBytes(t, "rest of "+c.in, rest, unhex(t, c.rest))
		if isList != c.list {
			t.Errorf("Split of %s: list %v", c.in, isList)
		}
	}
}

// P2.2: Split takes off what Bytes and List have put on, at all sizes.
func TestSplitOfWritten(t *testing.T) {
	for _, n := range sizes {
		s := strings.Repeat("\xee", n)
		for _, behind := range []string{"", "\x00", "\xff", strings.Repeat("\xb8", 70)} {
			payload, isList, rest, e := Split(Bytes(s) + behind)
			if payload != s || isList || rest != behind || e != api.OK {
				t.Errorf("Split of Bytes of %d: %d bytes, %v, %x, error %d", n, len(payload), isList, rest, e)
			}
			payload, isList, rest, e = Split(List(s) + behind)
			if payload != s || !isList || rest != behind || e != api.OK {
				t.Errorf("Split of List of %d: %d bytes, %v, %x, error %d", n, len(payload), isList, rest, e)
			}
		}
	}
}

// noThings is bytes that begin with no thing, by each way to be none.
func noThings(t *testing.T) []string {
	x := func(n int) string { return strings.Repeat("78", n) }
	var none []string
	for _, digits := range []string{
		"",                                                       // nothing
		"b8", "b9", "b901", "bb010000", "bf", "bf01020304050607", // too short for the head
		"f8", "f9", "f901", "fb010000", "ff", "ff01020304050607",
		"81", "83646f", "b7" + x(54), "b838" + x(55), "b90100" + x(255), // too short for what it says
		"c1", "c26f", "f7" + x(54), "f838" + x(55), "f90100" + x(255),
		"bf7fffffffffffffff" + x(60), "bf8000000000000000" + x(60), "bfffffffffffffffff" + x(60), "bfffffffffffffffc8" + x(60),
		"ff7fffffffffffffff" + x(60), "ff8000000000000000" + x(60), "ffffffffffffffffff" + x(60), "ffffffffffffffffc8" + x(60),
		"b80180", "b801", "b837" + x(55), "f800", "f801" + x(1), "f837" + x(55), // the long way, below 56
		"b800", "b90000", "b9000180", "b90038" + x(56), "ba000100" + x(256), "bf0000000000000038" + x(56), // a first byte 0
		"f90000", "f9000180", "f90038" + x(56), "fa000100" + x(256), "ff0000000000000038" + x(56),
		"8100", "8101", "8161", "817f", // one byte below 128
	} {
		none = append(none, unhex(t, digits))
	}
	return none
}

// P2.2, R2: each way in which bytes are none, alone, with more behind it, and inside a list.
func TestWrongForms(t *testing.T) {
	for _, s := range noThings(t) {
		payload, isList, rest, e := Split(s)
		if e != api.ErrForm || payload != "" || isList || rest != "" {
			t.Errorf("Split of %x: %x, %v, %x, error %d", s, payload, isList, rest, e)
		}
		inside := []string{s}
		if s != "" {
			inside = append(inside, List(s), List(Bytes("dog"), s), List(List(), List("a", List(s))))
		}
		for _, in := range inside {
			x, e := Decode(in)
			if e != api.ErrForm || !same(x, api.Item{}) {
				t.Errorf("Decode of %x: %#v, error %d", in, x, e)
			}
		}
	}
	for _, s := range []string{"\x81a", "\xb8\x01\x80", "\xc1"} {
		_, e := Decode(s)
		wantError(t, "Decode", e, api.ErrForm)
	}
}

// P2.2: a head of one byte below 128 is wrong with something behind it too, but a list of one is none of these.
func TestOneByte(t *testing.T) {
	for b := range 256 {
		s := string([]byte{0x81, byte(b)})
		want := api.OK
		if b < 128 {
			want = api.ErrForm
		}
		for _, behind := range []string{"", "x", "\xc0"} {
			_, _, _, e := Split(s + behind)
			wantError(t, "Split", e, want)
		}
		_, isList, _, e := Split(string([]byte{0xc1, byte(b)}))
		if e != api.OK || !isList {
			t.Errorf("Split of a list of the byte %x: %v, error %d", b, isList, e)
		}
	}
}

// P2.2: something behind a thing, which Split tells and Decode refuses.
func TestBehind(t *testing.T) {
	for _, s := range []string{"aa", "\x80\x80", "\xc0\xc0", "\x83dogs", "\xc2ab\x00", Bytes(strings.Repeat("x", 60)) + "y", "\xc1a\xb8"} {
		if _, _, rest, e := Split(s); e != api.OK || rest == "" {
			t.Errorf("Split of %x: %x behind it, error %d", s, rest, e)
		}
		x, e := Decode(s)
		if e != api.ErrForm || !same(x, api.Item{}) {
			t.Errorf("Decode of %x: %#v, error %d", s, x, e)
		}
	}
}

// P2.2: whole things are read; an empty list has no Items, and one of bytes has none.
func TestDecode(t *testing.T) {
	for _, c := range []struct {
		in   string
		want api.Item
	}{
		{"80", api.Item{}},
		{"00", text("\x00")},
		{"8180", text("\x80")},
		{"c0", list()},
		{"c180", list(text(""))},
		{"c28180", list(text("\x80"))},
		{"c8 83636174 83646f67", list(text("cat"), text("dog"))},
		{"c7 c0 c1c0 c3c0c1c0", list(list(), list(list()), list(list(), list(list())))},
		{"c6 61 c2 80 62 81ff", list(text("a"), list(text(""), text("b")), text("\xff"))},
		{"f8 38 b7" + strings.Repeat("33", 55), list(text(strings.Repeat("3", 55)))},
	} {
		x, e := Decode(unhex(t, c.in))
		wantError(t, "Decode of "+c.in, e, api.OK)
		if !same(x, c.want) {
			t.Errorf("Decode of %s: %#v, want %#v", c.in, x, c.want)
		}
	}
}

// P1: deep and wide bytes come to an end.
func TestDecodeGreat(t *testing.T) {
	_, e := Decode(strings.Repeat("\xc1", 1<<20))
	wantError(t, "Decode of heads alone", e, api.ErrForm)
	deep := "\xc0"
	for range 5000 {
		deep = List(deep)
	}
	_, e = Decode(deep)
	wantError(t, "Decode of 5001 lists in one another", e, api.ErrForm)
	wide := List(strings.Repeat("a\x80\xc0\x81\xff", 1<<18))
	x, e := Decode(wide)
	if e != api.OK || len(x.Items) != 1<<20 {
		t.Fatalf("Decode of 2^20 things: %d, error %d", len(x.Items), e)
	}
	wantBytes(t, "Encode of 2^20 things", written(x), wide)
}

// P2.3: numbers as bytes, and back.
func TestNumbers(t *testing.T) {
	for _, c := range []struct {
		n    uint64
		want string
	}{
		{0, ""},
		{1, "01"},
		{127, "7f"},
		{128, "80"},
		{255, "ff"},
		{256, "0100"},
		{1024, "0400"},
		{65535, "ffff"},
		{65536, "010000"},
		{1 << 32, "0100000000"},
		{0x0102030405060708, "0102030405060708"},
		{1 << 63, "8000000000000000"},
		{math.MaxUint64, "ffffffffffffffff"},
	} {
		wantBytes(t, "Number", Number(c.n), unhex(t, c.want))
		n, ok := Uint(unhex(t, c.want))
		if n != c.n || !ok {
			t.Errorf("Uint of %s: %d, %v", c.want, n, ok)
		}
	}
}

// P2.3: at every power of two, and beside it.
func TestNumbersByRule(t *testing.T) {
	for k := range 64 {
		for _, n := range []uint64{1<<k - 1, 1 << k, 1<<k + 1, math.MaxUint64 - 1<<k} {
			s := Number(n)
			wantBytes(t, "Number", s, ruleBytes(n))
			if back, ok := Uint(s); back != n || !ok {
				t.Errorf("Uint of %x: %d, %v, want %d", s, back, ok, n)
			}
		}
	}
}

// P2.3: texts that are no number's.
func TestNoNumber(t *testing.T) {
	for _, s := range []string{"\x00", "\x00\x01", "\x00\x00", "\x00\xff\xff\xff\xff\xff\xff\xff", "123456789", "\x01\x00\x00\x00\x00\x00\x00\x00\x00", "\x00\x01\x02\x03\x04\x05\x06\x07\x08", strings.Repeat("9", 10000)} {
		if n, ok := Uint(s); n != 0 || ok {
			t.Errorf("Uint of %d bytes: %d, %v", len(s), n, ok)
		}
	}
}

// wantReading holds what Split and Decode tell of s against the rules, and Encode of it against s.
func wantReading(t *testing.T, s string) {
	t.Helper()
	parts := ruleParts(s)
	if len(parts) > 1 {
		t.Fatalf("%x says %d things", s, len(parts))
	}
	payload, isList, rest, e := Split(s)
	got, want := rulePart{payload, isList, rest}, rulePart{}
	wantE := api.ErrForm
	if len(parts) == 1 {
		want, wantE = parts[0], api.OK
	}
	if got != want || e != wantE {
		t.Fatalf("Split of %x: %#v, error %d, want %#v", s, got, e, want)
	}
	items, ok := ruleRow(s, 1)
	x, e := Decode(s)
	if !ok || len(items) != 1 {
		if e != api.ErrForm || !same(x, api.Item{}) {
			t.Fatalf("Decode of %x: %#v, error %d, want ErrForm", s, x, e)
		}
		return
	}
	if e != api.OK || !same(x, items[0]) {
		t.Fatalf("Decode of %x: %#v, error %d, want %#v", s, x, e, items[0])
	}
	again, e := Encode(x)
	if e != api.OK || again != s {
		t.Fatalf("Encode of what %x says: %x, error %d", s, again, e)
	}
}

// P2.2, P2.4: all bytes of at most two, and all rows of some that matter.
func TestReadingAllShort(t *testing.T) {
	wantReading(t, "")
	for a := range 256 {
		wantReading(t, string([]byte{byte(a)}))
		for b := range 256 {
			wantReading(t, string([]byte{byte(a), byte(b)}))
		}
	}
	kinds := []byte{0x00, 0x01, 0x7f, 0x80, 0x81, 0x82, 0xb7, 0xb8, 0xb9, 0xc0, 0xc1, 0xc2, 0xc3, 0xf8}
	var all func(s string, more int)
	all = func(s string, more int) {
		wantReading(t, s)
		for _, b := range kinds {
			if more > 0 {
				all(s+string([]byte{b}), more-1)
			}
		}
	}
	all("", 4)
}

// anyItem is a thing that may be, of at most so many lists in one another.
func anyItem(r *rand.Rand, depth int) api.Item {
	if depth == 1 || r.Intn(3) == 0 {
		b := make([]byte, []int{0, 1, 1, 2, 20, 32, 54, 55, 56, 57, 255, 256, 300}[r.Intn(13)])
		for i := range b {
			b[i] = byte(r.Intn(256))
		}
		return text(string(b))
	}
	x := list()
	for range r.Intn(5) {
		x.Items = append(x.Items, anyItem(r, depth-1))
	}
	return x
}

// P2.1, P2.4: what was written is read again; no two things are written as the same bytes.
func TestWrittenAndRead(t *testing.T) {
	r := rand.New(rand.NewSource(2))
	seen := map[string]api.Item{}
	for range 5000 {
		x := anyItem(r, 1+r.Intn(6))
		s, e := Encode(x)
		wantError(t, "Encode", e, api.OK)
		wantBytes(t, "Encode", s, ruleWrite(x))
		back, e := Decode(s)
		if e != api.OK || !same(back, x) {
			t.Fatalf("Decode of Encode of %#v: %#v, error %d", x, back, e)
		}
		if other, ok := seen[s]; ok && !same(other, x) {
			t.Fatalf("%#v and %#v are both written as %x", x, other, s)
		}
		seen[s] = x
	}
}

// P2.2, P2.4: bytes that were written, with one of them changed, taken out or put in, are read by the rules.
func TestReadingSpoilt(t *testing.T) {
	r := rand.New(rand.NewSource(3))
	for range 3000 {
		s := written(anyItem(r, 1+r.Intn(4)))
		if len(s) > 200 {
			continue
		}
		at := r.Intn(len(s))
		b := string([]byte{byte(r.Intn(256))})
		for _, spoilt := range []string{s[:at] + b + s[at+1:], s[:at] + s[at+1:], s[:at] + b + s[at:], s[:at]} {
			wantReading(t, spoilt)
		}
	}
}

// R3: what is handed in stays as it is; what is told is its owner's, and no two lists of it share memory.
func TestMemory(t *testing.T) {
	x := list(text("a"), list(text("b"), list()), text("dog"))
	s := written(x)
	if !same(x, list(text("a"), list(text("b"), list()), text("dog"))) {
		t.Errorf("Encode changed what it was given: %#v", x)
	}
	first, _ := Decode(s)
	second, _ := Decode(s)
	first.Items[1].Items[0] = text("z")
	first.Items[0] = list(text("y"))
	first.Items[1].Items = append(first.Items[1].Items, text("w"), text("v"))
	if !same(second, x) {
		t.Errorf("one answer of Decode changed by another one's owner: %#v", second)
	}
	wantBytes(t, "Encode of what was changed", written(first), ruleWrite(list(list(text("y")), list(text("z"), list(), text("w"), text("v")), text("dog"))))
	payload := []string{"a", "b"}
	told := List(payload...)
	payload[0] = "z"
	wantBytes(t, "List behind a change", told, "\xc2ab")
}

// FuzzReading holds any bytes against the rules; go test runs it over its seeds.
func FuzzReading(f *testing.F) {
	for _, s := range []string{"", "a", "\x81\x80", "\xc2\xc0\xc0", "\xb8\x38" + strings.Repeat("x", 56), "\xf8\x38" + strings.Repeat("\xc0", 56)} {
		f.Add(s)
	}
	f.Fuzz(func(t *testing.T, s string) {
		if len(s) < 300 {
			wantReading(t, s)
		}
	})
}
