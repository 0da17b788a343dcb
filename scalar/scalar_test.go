package scalar

import (
	"encoding/hex"
	"math"
	"math/rand"
	"strings"
	"testing"

	"loess/api"
)

// noCodeHash is Keccak-256 of nothing.
const noCodeHash = "c5d2460186f7233c927e7db2dcc703c0e500b653ca82273b7bfad8045d85a470"

func unhex(t *testing.T, digits string) string {
	t.Helper()
	b, err := hex.DecodeString(strings.ReplaceAll(digits, " ", ""))
	if err != nil {
		t.Fatal(err)
	}
	return string(b)
}

func wantBytes(t *testing.T, what, got, want string) {
	t.Helper()
	if got != want {
		t.Errorf("%s: %x, want %x", what, got, want)
	}
}

// wantTold holds an answer and its error against what is asked; beside an error nothing is told (R2).
func wantTold(t *testing.T, what, got string, e api.Errno, want string, wantErr api.Errno) {
	t.Helper()
	if got != want || e != wantErr {
		t.Errorf("%s: %x error %d, want %x error %d", what, got, e, want, wantErr)
	}
}

func wantAdd(t *testing.T, a, b, want string, wantErr api.Errno) {
	t.Helper()
	s, e := Add(a, b)
	wantTold(t, "Add of "+hex.EncodeToString([]byte(a))+" and "+hex.EncodeToString([]byte(b)), s, e, want, wantErr)
}

func wantSub(t *testing.T, a, b, want string, wantErr api.Errno) {
	t.Helper()
	s, e := Sub(a, b)
	wantTold(t, "Sub of "+hex.EncodeToString([]byte(a))+" and "+hex.EncodeToString([]byte(b)), s, e, want, wantErr)
}

func wantWide(t *testing.T, s, want string, wantErr api.Errno) {
	t.Helper()
	w, e := Wide(s)
	wantTold(t, "Wide of "+hex.EncodeToString([]byte(s)), w, e, want, wantErr)
}

func wantRead(t *testing.T, s string, want api.Account) {
	t.Helper()
	a, e := Read(s)
	if a != want || e != api.OK {
		t.Errorf("Read of %x: %+v error %d, want %+v", s, a, e, want)
	}
}

func wantNoRecord(t *testing.T, s string) {
	t.Helper()
	a, e := Read(s)
	if a != (api.Account{}) || e != api.ErrForm {
		t.Errorf("Read of %x: %+v error %d, want none and error %d", s, a, e, api.ErrForm)
	}
}

// noNumbers are texts that are none: a first byte 0, or more than 32 bytes.
func noNumbers() []string {
	return []string{"\x00", "\x00\x01", "\x00\x00", zeros(32), zeros(33), zeros(1) + full(31), zeros(1) + full(32), "\x01" + zeros(32), full(33), full(100)}
}

// texts are numbers and others, at all edges of lengths, with carries and borrows to go through.
func texts() []string {
	all := []string{
		"", "\x01", "\x02", "\x7f", "\x80", "\xfe", "\xff", "\x01\x00", "\x01\x01", "\x01\xff", "\x02\x00", "\xff\x00", "\xff\xff",
		full(8), "\x01" + zeros(8), full(31), "\x01" + zeros(30), "\x01" + zeros(31), "\x80" + zeros(31), "\x7f" + full(31), full(31) + "\xfe", full(32), "\xff" + zeros(31), "\xfe" + full(31),
	}
	for _, s := range all[:4] {
		all = append(all, zeros(1)+s, zeros(32)+s, zeros(40)+s)
	}
	return append(all, noNumbers()...)
}

// drawn is a text of at most so many bytes; some of them are 0 or ff, so that sums carry far.
func drawn(draw *rand.Rand, most int) string {
	b := make([]byte, draw.Intn(most+1))
	for i := range b {
		switch draw.Intn(4) {
		case 0:
			b[i] = 0xff
		case 1:
			b[i] = 0
		default:
			b[i] = byte(draw.Intn(256))
		}
	}
	return string(b)
}

// P4.1: of nothing, of bytes 0 alone, of texts without one ahead; bytes 0 inside and behind stay.
func TestTrim(t *testing.T) {
	for _, c := range []struct{ in, want string }{
		{"", ""},
		{"\x00\x00\x05", "\x05"},
		{"\x00", ""},
		{zeros(2), ""},
		{zeros(33), ""},
		{"\x05", "\x05"},
		{"\x05\x00", "\x05\x00"},
		{"\x00\x05\x00\x06\x00", "\x05\x00\x06\x00"},
		{"0", "0"},
		{"\x80\x00", "\x80\x00"},
		{"\x00\xff", "\xff"},
		{"\x00\xc3\xa9", "\xc3\xa9"},
		{zeros(100) + full(100), full(100)},
		{full(33), full(33)},
	} {
		wantBytes(t, "Trim", Trim(c.in), c.want)
	}
	for b := 1; b < 256; b++ {
		s := string([]byte{byte(b)})
		wantBytes(t, "Trim of a byte", Trim(s), s)
		wantBytes(t, "Trim of 0 and a byte", Trim("\x00"+s), s)
	}
}

// P4.1: 32 bytes and 33, a first byte 0, nothing.
func TestRight(t *testing.T) {
	for _, s := range []string{"", "\x01", "\xff", "\x01\x00", full(31), "\x01" + zeros(31), full(32)} {
		if !Right(s) {
			t.Errorf("%x is a number", s)
		}
	}
	for _, s := range noNumbers() {
		if Right(s) {
			t.Errorf("%x is no number", s)
		}
	}
	for _, s := range texts() {
		if got := Right(s); got != ruleRight(s) {
			t.Errorf("Right of %x: %v", s, got)
		}
	}
}

// P4.1: of 32 bytes, of more whose Trim has 32, of more than 32.
func TestWide(t *testing.T) {
	wantWide(t, "", zeros(32), api.OK)
	wantWide(t, zeros(50), zeros(32), api.OK)
	wantWide(t, "\x05", zeros(31)+"\x05", api.OK)
	wantWide(t, "\x00\x05", zeros(31)+"\x05", api.OK)
	wantWide(t, "\x05\x00", zeros(30)+"\x05\x00", api.OK)
	wantWide(t, full(31), zeros(1)+full(31), api.OK)
	wantWide(t, full(32), full(32), api.OK)
	wantWide(t, zeros(1)+full(31), zeros(1)+full(31), api.OK)
	wantWide(t, zeros(1)+full(32), full(32), api.OK)
	wantWide(t, zeros(70)+"\x01"+zeros(31), "\x01"+zeros(31), api.OK)
	wantWide(t, full(33), "", api.ErrSize)
	wantWide(t, "\x01"+zeros(32), "", api.ErrSize)
	wantWide(t, zeros(1)+full(33), "", api.ErrSize)
	for _, s := range texts() {
		want, e := ruleWide(s)
		wantWide(t, s, want, e)
	}
}

// P4.1: of unlike lengths, with bytes 0 ahead and without, above 32 bytes too.
func TestCmp(t *testing.T) {
	for _, c := range []struct {
		a, b string
		want int
	}{
		{"\x00\x05", "\x05", 0},
		{"\x01\x00", "\xff", 1},
		{"", "", 0},
		{"", "\x00", 0},
		{"", "\x01", -1},
		{zeros(40), "", 0},
		{zeros(40) + "\x01", zeros(3) + "\x02", -1},
		{zeros(40) + "\x03", "\x02", 1},
		{"\x7f", "\x80", -1},
		{"\x01\x02\x03", "\x01\x02\x04", -1},
		{"\x02\x00\x00", "\x01\xff\xff", 1},
		{full(32), "\x01" + zeros(32), -1},
		{full(33), full(32), 1},
		{full(40), full(40), 0},
		{full(40), zeros(7) + full(40), 0},
		{full(39) + "\xfe", full(40), -1},
		{"\x01" + zeros(99), full(99), 1},
	} {
		if got := Cmp(c.a, c.b); got != c.want {
			t.Errorf("Cmp of %x and %x: %d, want %d", c.a, c.b, got, c.want)
		}
		if got := Cmp(c.b, c.a); got != -c.want {
			t.Errorf("Cmp of %x and %x: %d, want %d", c.b, c.a, got, -c.want)
		}
	}
	for _, a := range texts() {
		for _, b := range texts() {
			if got, want := Cmp(a, b), ruleValue(a).Cmp(ruleValue(b)); got != want {
				t.Errorf("Cmp of %x and %x: %d, want %d", a, b, got, want)
			}
		}
	}
}

// P4.2: the chapter's example, carries through all bytes, a sum of 33 bytes.
func TestAddKnown(t *testing.T) {
	wantAdd(t, "\xff", "\x01", "\x01\x00", api.OK)
	wantAdd(t, "", "", "", api.OK)
	wantAdd(t, "", "\x05", "\x05", api.OK)
	wantAdd(t, "\x05", "", "\x05", api.OK)
	wantAdd(t, full(32), "", full(32), api.OK)
	wantAdd(t, full(31), "\x01", "\x01"+zeros(31), api.OK)
	wantAdd(t, "\x01", full(31), "\x01"+zeros(31), api.OK)
	wantAdd(t, full(31)+"\xfe", "\x01", full(32), api.OK)
	wantAdd(t, "\x7f"+full(31), "\x80"+zeros(31), full(32), api.OK)
	wantAdd(t, "\x7f"+full(31), "\x7f"+full(31), full(31)+"\xfe", api.OK)
	wantAdd(t, "\x12\x34", "\x0f\xff\xff", "\x10\x12\x33", api.OK)
	wantAdd(t, full(32), "\x01", "", api.ErrSize)
	wantAdd(t, "\x01", full(32), "", api.ErrSize)
	wantAdd(t, full(32), full(32), "", api.ErrSize)
	wantAdd(t, "\x80"+zeros(31), "\x80"+zeros(31), "", api.ErrSize)
}

// P4.2: the chapter's examples, borrows through all bytes, equal numbers, the greater from the less.
func TestSubKnown(t *testing.T) {
	wantSub(t, "\x01\x00", "\x01", "\xff", api.OK)
	wantSub(t, "\x01", "\x02", "", api.ErrSize)
	wantSub(t, "", "", "", api.OK)
	wantSub(t, "\x05", "", "\x05", api.OK)
	wantSub(t, "", "\x01", "", api.ErrSize)
	wantSub(t, "\xff", "\x01\x00", "", api.ErrSize)
	wantSub(t, full(32), full(32), "", api.OK)
	wantSub(t, full(32), "", full(32), api.OK)
	wantSub(t, "", full(32), "", api.ErrSize)
	wantSub(t, full(31)+"\xfe", full(32), "", api.ErrSize)
	wantSub(t, full(32), full(31)+"\xfe", "\x01", api.OK)
	wantSub(t, "\x01"+zeros(31), "\x01", full(31), api.OK)
	wantSub(t, "\x01"+zeros(31), full(31), "\x01", api.OK)
	wantSub(t, "\x80"+zeros(31), "\x01", "\x7f"+full(31), api.OK)
	wantSub(t, "\x12\x34\x56", "\x12\x34\x00", "\x56", api.OK)
}

// P4.2, R2: of texts that are no numbers ErrArg, even where ErrSize would apply as well.
func TestSumsOfNoNumbers(t *testing.T) {
	for _, s := range noNumbers() {
		for _, other := range append(noNumbers(), "", "\x01", full(32)) {
			wantAdd(t, s, other, "", api.ErrArg)
			wantAdd(t, other, s, "", api.ErrArg)
			wantSub(t, s, other, "", api.ErrArg)
			wantSub(t, other, s, "", api.ErrArg)
		}
	}
}

// P4.2: sums of all kinds, as math/big has them.
func TestSums(t *testing.T) {
	all := texts()
	draw := rand.New(rand.NewSource(4))
	for range 300 {
		all = append(all, drawn(draw, 33))
	}
	for _, a := range all {
		for _, b := range all {
			want, e := ruleAdd(a, b)
			wantAdd(t, a, b, want, e)
			want, e = ruleSub(a, b)
			wantSub(t, a, b, want, e)
		}
	}
}

// P4.2: each two bytes, so that no carry of a single place is missed.
func TestSumsOfBytes(t *testing.T) {
	for _, a := range ruleTexts("\x00\x01\x02\x7f\x80\xfe\xff", 2) {
		for _, b := range ruleTexts("\x00\x01\x02\x7f\x80\xfe\xff", 2) {
			want, e := ruleAdd(a, b)
			wantAdd(t, a, b, want, e)
			want, e = ruleSub(a, b)
			wantSub(t, a, b, want, e)
		}
	}
}

// P4.4: Sub of Add is the first one, and numbers have one form each.
func TestSubOfAdd(t *testing.T) {
	draw := rand.New(rand.NewSource(5))
	for range 3000 {
		a, b := Trim(drawn(draw, 32)), Trim(drawn(draw, 32))
		sum, e := Add(a, b)
		if e != api.OK {
			continue
		}
		wantSub(t, sum, b, a, api.OK)
		wantSub(t, sum, a, b, api.OK)
		if !Right(sum) || Cmp(sum, a) < 0 || Cmp(sum, b) < 0 {
			t.Errorf("the sum of %x and %x: %x", a, b, sum)
		}
	}
	for _, a := range texts() {
		for _, b := range texts() {
			if Right(a) && Right(b) && (Cmp(a, b) == 0) != (a == b) {
				t.Errorf("%x and %x are one number", a, b)
			}
		}
	}
}

// someCode is a code's hash.
func someCode() string { return "\x00" + strings.Repeat("c", 31) }

// goodAccounts are at all edges at which there still is one.
func goodAccounts() []api.Account {
	var all []api.Account
	for _, nonce := range []uint64{0, 1, 127, 128, 255, 256, 1 << 32, math.MaxInt64, 1 << 63, math.MaxUint64} {
		for _, balance := range []string{"", "\x01", "\x7f", "\x80", "\x01\x00", full(31), "\x01" + zeros(31), full(32)} {
			for _, code := range []string{"", zeros(32), someCode(), full(32)} {
				for _, born := range []int{0, 1, 127, 128, 255, 256, 65536, api.MaxBlock - 1, api.MaxBlock} {
					all = append(all, api.Account{Nonce: nonce, Balance: balance, Code: code, Born: born})
				}
			}
		}
	}
	return all
}

// wrongAccounts are none, by each way to be none.
func wrongAccounts() []api.Account {
	var all []api.Account
	for _, balance := range noNumbers() {
		all = append(all, api.Account{Balance: balance})
	}
	for _, n := range []int{1, 2, 20, 31, 33, 64, 1000} {
		all = append(all, api.Account{Code: full(n)}, api.Account{Code: zeros(n)})
	}
	for _, born := range []int{-1, -2, math.MinInt32, math.MinInt, api.MaxBlock + 1, 1 << 32, 1<<32 + 1, math.MaxInt} {
		all = append(all, api.Account{Born: born})
	}
	n := len(all)
	for _, a := range all[:n] {
		a.Nonce = 7
		if a.Code == "" {
			a.Code = someCode()
		}
		if a.Balance == "" {
			a.Balance = "\x05"
		}
		all = append(all, a)
	}
	return all
}

// P4.3: at the edges.
func TestCheck(t *testing.T) {
	for _, a := range goodAccounts() {
		if e := Check(a); e != api.OK {
			t.Errorf("Check of %+v: error %d", a, e)
		}
	}
}

// P4.3, R2: each way in which an account is none; Record and Leaf say the same, and tell nothing.
func TestCheckWrong(t *testing.T) {
	for _, a := range wrongAccounts() {
		if e := Check(a); e != api.ErrArg {
			t.Errorf("Check of %+v: error %d", a, e)
		}
		s, e := Record(a)
		wantTold(t, "Record", s, e, "", api.ErrArg)
		s, e = Leaf(a, [32]byte{1})
		wantTold(t, "Leaf", s, e, "", api.ErrArg)
	}
}

// P4.3: the chapter's example, an account of zeros, the greatest numbers, written out.
func TestRecordKnown(t *testing.T) {
	greatest := strings.Repeat("ff", 32)
	code := strings.Repeat("00", 31) + "01"
	for _, c := range []struct {
		a    api.Account
		want string
	}{
		{api.Account{Nonce: 1, Balance: "\x05", Born: 3}, "c4 01 05 80 03"},
		{api.Account{}, "c4 80 80 80 80"},
		{api.Account{Nonce: 128, Balance: "\x80", Born: 256}, "c8 8180 8180 80 820100"},
		{api.Account{Code: zeros(31) + "\x01"}, "e4 80 80 a0" + code + "80"},
		{api.Account{Nonce: math.MaxUint64, Balance: full(32), Born: api.MaxBlock}, "f0 88ffffffffffffffff a0" + greatest + "80 847fffffff"},
		{api.Account{Nonce: math.MaxUint64, Balance: full(32), Code: zeros(31) + "\x01", Born: api.MaxBlock}, "f850 88ffffffffffffffff a0" + greatest + "a0" + code + "847fffffff"},
	} {
		s, e := Record(c.a)
		wantTold(t, "Record", s, e, unhex(t, c.want), api.OK)
		wantRead(t, unhex(t, c.want), c.a)
	}
}

// P4.3, P4.4: Record of each account, and the account back again.
func TestRecordAndBack(t *testing.T) {
	for _, a := range goodAccounts() {
		s, e := Record(a)
		wantTold(t, "Record", s, e, ruleRecord(a), api.OK)
		wantRead(t, s, a)
	}
}

// P4.3: the root's bytes and the code's stand there whole; of no code the hash of nothing; Born does not.
func TestLeafKnown(t *testing.T) {
	zero, greatest := strings.Repeat("00", 32), strings.Repeat("ff", 32)
	var top [32]byte
	for i := range top {
		top[i] = 0xff
	}
	for _, c := range []struct {
		a    api.Account
		root [32]byte
		want string
	}{
		{api.Account{}, [32]byte{}, "f844 80 80 a0" + zero + "a0" + noCodeHash},
		{api.Account{Nonce: 1, Balance: "\x05", Born: 3}, [32]byte{31: 9}, "f844 01 05 a0" + zero[2:] + "09 a0" + noCodeHash},
		{api.Account{Code: zeros(32)}, [32]byte{1}, "f844 80 80 a001" + zero[2:] + "a0" + zero},
		{api.Account{Nonce: math.MaxUint64, Balance: full(32), Code: full(32), Born: api.MaxBlock}, top, "f86c 88ffffffffffffffff a0" + greatest + "a0" + greatest + "a0" + greatest},
	} {
		s, e := Leaf(c.a, c.root)
		wantTold(t, "Leaf", s, e, unhex(t, c.want), api.OK)
	}
}

// P4.3: Leaf of each account.
func TestLeaf(t *testing.T) {
	var root [32]byte
	for i := range root {
		root[i] = byte(i)
	}
	for _, a := range goodAccounts() {
		s, e := Leaf(a, root)
		wantTold(t, "Leaf", s, e, ruleLeaf(a, string(root[:]), unhex(t, noCodeHash)), api.OK)
	}
}

// P4.3: each way in which bytes are no Record.
func TestReadOfNone(t *testing.T) {
	code, c31, c33 := "a0"+strings.Repeat("11", 32), "9f"+strings.Repeat("11", 31), "a1"+strings.Repeat("11", 33)
	for _, digits := range []string{
		"", "80", "84 01058003", "01", "05", "a0" + strings.Repeat("11", 32), // not a list
		"c0", "c1 01", "c2 0105", "c3 010580", "c5 0105800304", "c5 0105800380", "c5 01058003c0", // more or fewer parts
		"c4 c0058003", "c4 01c08003", "c4 0105c003", "c4 010580c0", "c5 c101058003", "c5 01c1058003", "c5 010580c103", "c1 c0", // a part that is a list
		"c5 c401058003", "c0 c401058003", // a list in a list, a list behind one
		"c4 00058003", "c4 01008003", "c4 01058000", "c6 820001058003", "c6 018200058003", "c6 010580820003", // a byte 0 ahead
		"c6 820000058003", "c6 01820000 8003", "c6 010580820000",
		"cd 89010000000000000000058003",                // a Nonce of more than 8 bytes
		"c8 010580 8480000000", "c8 010580 84ffffffff", // a Born above MaxBlock
		"c9 010580 850100000000", "c9 010580 850100000001", "cc 010580 887fffffffffffffff", "cc 010580 888000000000000000", "cc 010580 88ffffffffffffffff", "cd 010580 89010000000000000000",
		"e5 01 a1" + strings.Repeat("11", 33) + "80 03", "e4 01 a000" + strings.Repeat("11", 31) + "80 03", // a Balance that is no number
		"c4 01050103", "c4 01050003", "c5 0105 8180 03", "e3 0105" + c31 + "03", "e5 0105" + c33 + "03", // a Code of another length
		"c4 0105800300", "c4 0105800380", "c4 01058003c401058003", "e4 0105" + code + "0300", // bytes behind
		"c4 010580", "c5 01058003", "f8", "f804 01058003", "f90004 01058003", "e4 0105" + code, // no thing at all
		"c5 8101058003", "c5 0181058003", "c5 010581 8003", "c4 01058081", "c5 010580b800",
	} {
		wantNoRecord(t, unhex(t, digits))
	}
	wantRead(t, unhex(t, "e4 0105"+code+"03"), api.Account{Nonce: 1, Balance: "\x05", Code: strings.Repeat("\x11", 32), Born: 3})
	wantRead(t, unhex(t, "c8 010580 847fffffff"), api.Account{Nonce: 1, Balance: "\x05", Born: api.MaxBlock})
	wantRead(t, unhex(t, "cc 88ffffffffffffffff 058003"), api.Account{Nonce: math.MaxUint64, Balance: "\x05", Born: 3})
}

// P4.3: of all lists of at most six bytes from some, those that are an account's Record are read as that one, the others as none.
func TestReadOfAll(t *testing.T) {
	const some = "\x00\x01\x7f\x80\x81\x82\xc0\xff"
	records := map[string]api.Account{}
	var numbers []string
	for _, s := range ruleTexts(some, 2) {
		if ruleRight(s) {
			numbers = append(numbers, s)
		}
	}
	for _, nonce := range numbers {
		for _, balance := range numbers {
			for _, born := range numbers {
				a := api.Account{Nonce: ruleValue(nonce).Uint64(), Balance: balance, Born: int(ruleValue(born).Int64())}
				records[ruleRecord(a)] = a
			}
		}
	}
	found := 0
	for _, payload := range ruleTexts(some, 6) {
		s := string([]byte{0xc0 + byte(len(payload))}) + payload
		if a, ok := records[s]; ok {
			wantRead(t, s, a)
			found++
		} else {
			wantNoRecord(t, s)
		}
	}
	if found == 0 {
		t.Error("no record was among them")
	}
}

// P4.3: a record with a byte more, less or changed is another account's, or none's.
func TestReadOfChanged(t *testing.T) {
	draw := rand.New(rand.NewSource(6))
	all := goodAccounts()
	for range 500 {
		s := ruleRecord(all[draw.Intn(len(all))])
		for at := range len(s) {
			b := string([]byte{byte(draw.Intn(256))})
			for _, changed := range []string{s[:at] + b + s[at+1:], s[:at] + s[at+1:], s[:at] + b + s[at:], s[:at]} {
				a, e := Read(changed)
				if e == api.OK {
					wantBytes(t, "Record of what was read", ruleRecord(a), changed)
				} else {
					wantNoRecord(t, changed)
				}
			}
		}
	}
}

// R5: no text is too long.
func TestLong(t *testing.T) {
	const n = 1 << 22
	if Trim(zeros(n)) != "" || Trim(zeros(n)+"\x05") != "\x05" || Trim("\x05"+zeros(n)) != "\x05"+zeros(n) {
		t.Error("Trim of a long text is wrong")
	}
	if Right(full(n)) || Right(zeros(n)) {
		t.Error("a long text is no number")
	}
	if Cmp(full(n), zeros(n)+full(n)) != 0 || Cmp(full(n), "\x01"+zeros(n)) != -1 || Cmp(zeros(n)+"\x02", "\x01") != 1 {
		t.Error("Cmp of long texts is wrong")
	}
	wantWide(t, zeros(n)+full(32), full(32), api.OK)
	if w, e := Wide(full(n)); w != "" || e != api.ErrSize {
		t.Error("Wide of a long text is wrong")
	}
	if s, e := Add(full(n), "\x01"); s != "" || e != api.ErrArg {
		t.Error("Add of a long text is wrong")
	}
	if s, e := Sub("\x01", full(n)); s != "" || e != api.ErrArg {
		t.Error("Sub of a long text is wrong")
	}
	if Check(api.Account{Balance: full(n)}) != api.ErrArg || Check(api.Account{Code: full(n)}) != api.ErrArg {
		t.Error("Check of a long text is wrong")
	}
	for _, s := range []string{full(n), zeros(n), strings.Repeat("\xc1", n), strings.Repeat("\x80", n), "\xfa\x3f\xff\xfc" + strings.Repeat("\x80", n-4)} {
		if a, e := Read(s); a != (api.Account{}) || e != api.ErrForm {
			t.Error("Read of a long text is wrong")
		}
	}
}

// P1: every call ends at any text, and what it tells holds together.
func FuzzAll(f *testing.F) {
	for _, s := range texts() {
		f.Add(s, "\x01\x00", uint64(1), 3)
		f.Add("\xc4\x01\x05\x80\x03", s, uint64(math.MaxUint64), -1)
	}
	f.Fuzz(func(t *testing.T, a, b string, nonce uint64, born int) {
		wantBytes(t, "Trim", Trim(a), string(ruleValue(a).Bytes()))
		if Right(a) != ruleRight(a) || Cmp(a, b) != ruleValue(a).Cmp(ruleValue(b)) {
			t.Errorf("Right or Cmp of %x and %x is wrong", a, b)
		}
		want, e := ruleWide(a)
		wantWide(t, a, want, e)
		want, e = ruleAdd(a, b)
		wantAdd(t, a, b, want, e)
		want, e = ruleSub(a, b)
		wantSub(t, a, b, want, e)
		if x, e := Read(a); e == api.OK {
			wantBytes(t, "Record of Read", ruleRecord(x), a)
		} else {
			wantNoRecord(t, a)
		}
		x := api.Account{Nonce: nonce, Balance: a, Code: b, Born: born}
		_, leafErr := Leaf(x, [32]byte{})
		s, e := Record(x)
		if e != Check(x) || e != leafErr {
			t.Errorf("Check, Record and Leaf of %+v do not say the same", x)
		}
		if e == api.OK {
			wantRead(t, s, x)
		}
	})
}
