package keccak

import (
	"crypto/sha3"
	"encoding/hex"
	"math/rand"
	"strings"
	"testing"
)

// counted is a text of n bytes, no two blocks of which are alike.
func counted(n int) string {
	var b strings.Builder
	for i := range n {
		b.WriteByte(byte(i))
	}
	return b.String()
}

// cut is text in parts of random lengths, empty ones among them.
func cut(r *rand.Rand, text string, most int) []string {
	var parts []string
	for len(text) > 0 {
		n := min(r.Intn(most+1), len(text))
		parts = append(parts, text[:n])
		text = text[n:]
	}
	return parts
}

func wantSum(t *testing.T, what string, got [32]byte, want string) {
	t.Helper()
	if g := hex.EncodeToString(got[:]); g != want {
		t.Errorf("%s: %s, want %s", what, g, want)
	}
}

func wantHash(t *testing.T, what string, h *Hash, text string) {
	t.Helper()
	if h.Sum() != ruleSum(rulePermute, 0x01, text) {
		t.Errorf("%s: Sum of %d bytes is another", what, len(text))
	}
	if h.Len() != len(text) {
		t.Errorf("%s: Len %d, want %d", what, h.Len(), len(text))
	}
}

// P1.1: known answers, whole.
func TestPermuteKnown(t *testing.T) {
	zeros := [25]uint64{
		0xf1258f7940e1dde7, 0x84d5ccf933c0478a, 0xd598261ea65aa9ee, 0xbd1547306f80494d, 0x8b284e056253d057,
		0xff97a42d7f8e6fd4, 0x90fee5a0a44647c4, 0x8c5bda0cd6192e76, 0xad30a6f71b19059c, 0x30935ab7d08ffc64,
		0xeb5aa93f2317d635, 0xa9a6e6260d712103, 0x81a57c16dbcf555f, 0x43b831cd0347c826, 0x01f22f1a11a5569f,
		0x05e5635a21d9ae61, 0x64befef28cc970f2, 0x613670957bc46611, 0xb87c5a554fd00ecb, 0x8c3ee88a1ccf32c8,
		0x940c7922ae3a2614, 0x1841f924a2c509e4, 0x16f53526e70465c2, 0x75f644e97f30a13b, 0xeaf1ff7b5ceca249,
	}
	if got := Permute([25]uint64{}); got != zeros {
		t.Errorf("of zeros: %x", got)
	}
	rising := [25]uint64{
		0xad3cdd1217da77dc, 0xd9912b9cf1de9af0, 0x67e9eeb3d57e2675, 0x1947b8264661a962, 0x9f6671b770900ef7,
		0xe48e69cdfbddc1c3, 0x2a0b8ee724dd81a9, 0x426fa514e87c56c4, 0xf58f95c1c44b2592, 0xf39354dacc135d8d,
		0x810dd7751ca7387a, 0x7a5f2c31dbb3ca4e, 0x78b1fc70647453f6, 0x7b99c831dee0ee53, 0xc6c057d7dcb48d89,
		0x589ae03d72bc059f, 0x9ff0d985c0522bfe, 0x94fef97fddb5f45d, 0x83aaf60178825b67, 0xa854b54671881329,
		0xbed073577475186a, 0xa5ed94ddaf4694ee, 0x65c2be6dab562d3e, 0x2b896ec5f4984f6c, 0x41f16f13ce1d3908,
	}
	var in [25]uint64
	for i := range in {
		in[i] = uint64(i + 1)
	}
	if got := Permute(in); got != rising {
		t.Errorf("of 1 to 25: %x", got)
	}
	if in[0] != 1 || in[24] != 25 {
		t.Errorf("the argument was changed: %x", in)
	}
}

// P1.1: the chapter's rules, on single bits (each lane's turn and place) and on full states.
func TestPermuteByRules(t *testing.T) {
	for i := range 25 {
		for _, bit := range []int{0, 1, 31, 32, 63} {
			var a [25]uint64
			a[i] = 1 << bit
			if Permute(a) != rulePermute(a) {
				t.Errorf("lane %d, bit %d", i, bit)
			}
		}
	}
	r := rand.New(rand.NewSource(1))
	for n := range 200 {
		var a [25]uint64
		for i := range a {
			a[i] = r.Uint64()
		}
		if Permute(a) != rulePermute(a) {
			t.Errorf("state %d", n)
		}
	}
}

// P1.1: the same permutation makes SHA3-256, but for the padding.
func TestPermuteMakesSHA3(t *testing.T) {
	for n := range 300 {
		s := counted(n)
		if ruleSum(Permute, 0x06, s) != sha3.Sum256([]byte(s)) {
			t.Errorf("%d bytes", n)
		}
	}
}

// P1.2: the chapter's examples, other known answers, the edges of a block.
func TestSumKnown(t *testing.T) {
	const nothing = "c5d2460186f7233c927e7db2dcc703c0e500b653ca82273b7bfad8045d85a470"
	wantSum(t, "no part", Sum(), nothing)
	wantSum(t, "nil parts", Sum(nil...), nothing)
	wantSum(t, "empty parts", Sum("", "", ""), nothing)
	wantSum(t, "abc", Sum("abc"), "4e03657aea45a94fc7d47ba826c8d667c0d1e6e33a64a036ec44f58fa12d6c45")
	wantSum(t, "80", Sum("\x80"), "56e81f171bcc55a6ff8345e692c0f86e5b48e01b996cadc001622fb5e363b421")
	for _, c := range []struct {
		n    int
		want string
	}{
		{1, "bc36789e7a1e281436464229828f817d6612f7b477d66591ff96a9e064bcc98a"},
		{135, "cbdfd9dee5faad3818d6b06f95a219fd290b0e1706f6a82e5a595b9ce9faca62"},
		{136, "7ce759f1ab7f9ce437719970c26b0a66ff11fe3e38e17df89cf5d29c7d7f807e"},
		{137, "ac73d4fae68b8453f764007c1a20ce95994187861f0c3227a3a8e99a73a3b1db"},
		{271, "7c974895b2a88303ff2dc6b58f438ceb0b298cac91099ac0539cc0f477506191"},
		{272, "fdf2ec49e749960d3c8521a0219af8d03e30e2b3bf19bd16150ee0eaf133d66e"},
		{273, "4f707289a9c3ccd0c4a51f2f17339f5dd171d371c04ff7783b735b5b22682eaf"},
		{1000, "aca79e4146e30eb1c733f6d6060d72471c36ea4e01ebf45d7f4916249c2bbd82"},
	} {
		wantSum(t, "counted", Sum(counted(c.n)), c.want)
	}
}

// P1.2: every length about the first blocks' edges, and a long text.
func TestSumByRules(t *testing.T) {
	for n := range 420 {
		s := counted(n)
		if Sum(s) != ruleSum(rulePermute, 0x01, s) {
			t.Errorf("%d bytes", n)
		}
	}
	long := strings.Repeat("\xff\x00\xfe", 100001)
	if Sum(long) != ruleSum(rulePermute, 0x01, long) {
		t.Errorf("%d bytes", len(long))
	}
}

// P1.2: bytes that are no text in UTF-8, and zeros behind one another, count as they are.
func TestSumTellsApart(t *testing.T) {
	seen := map[[32]byte]int{}
	for n := range 300 {
		s := strings.Repeat("\x00", n)
		if Sum(s) != ruleSum(rulePermute, 0x01, s) {
			t.Errorf("%d zeros", n)
		}
		seen[Sum(s)]++
	}
	if len(seen) != 300 {
		t.Errorf("300 rows of zeros have %d sums", len(seen))
	}
	if Sum("\xff\xfe") == Sum("\xfd\xfd") {
		t.Error("bytes beyond UTF-8 are taken for one another")
	}
}

// P1.3: what each call tells, Sum asked in between, more written behind it.
func TestHashByParts(t *testing.T) {
	h := New()
	wantHash(t, "new", h, "")
	text := ""
	for _, n := range []int{0, 1, 134, 1, 1, 0, 135, 136, 137, 272, 500} {
		p := counted(n)
		if got := h.Write(p); got != n {
			t.Errorf("Write of %d bytes: %d", n, got)
		}
		text += p
		wantHash(t, "written", h, text)
		wantHash(t, "asked again", h, text)
	}
}

// P1.3: Reset at every place of a block; what was written is of no more effect.
func TestHashReset(t *testing.T) {
	for _, n := range []int{0, 1, 135, 136, 137, 300} {
		h := New()
		h.Write(counted(n))
		h.Reset()
		wantHash(t, "reset", h, "")
		h.Reset()
		h.Write("abc")
		wantHash(t, "reset and written", h, "abc")
		h.Write(counted(140))
		wantHash(t, "reset and written on", h, "abc"+counted(140))
	}
}

// P1.3: two of them have nothing in common, nor has a copy with its origin.
func TestHashesApart(t *testing.T) {
	a, b := New(), New()
	a.Write(counted(140))
	b.Write("b")
	c := *a
	c.Write("c")
	a.Write("a")
	wantHash(t, "a", a, counted(140)+"a")
	wantHash(t, "b", b, "b")
	wantHash(t, "c", &c, counted(140)+"c")
}

// P1.4: every way to cut a text in two, and many ways to cut it in more.
func TestCuts(t *testing.T) {
	for _, n := range []int{1, 135, 136, 137, 272, 280} {
		s := counted(n)
		want := Sum(s)
		for i := range n + 1 {
			if Sum(s[:i], s[i:]) != want {
				t.Errorf("%d bytes, cut at %d: Sum", n, i)
			}
			h := New()
			h.Write(s[:i])
			h.Sum()
			h.Write(s[i:])
			if h.Sum() != want {
				t.Errorf("%d bytes, cut at %d: Write", n, i)
			}
		}
	}
	r := rand.New(rand.NewSource(2))
	for n := range 400 {
		s := counted(n * 3)
		parts := cut(r, s, 1+r.Intn(300))
		h := &Hash{}
		for _, p := range parts {
			h.Write(p)
		}
		if Sum(parts...) != Sum(s) || h.Sum() != Sum(s) || h.Len() != len(s) {
			t.Errorf("%d bytes in %d parts", len(s), len(parts))
		}
	}
}

// R1: a nil hash.
func TestNilHash(t *testing.T) {
	var h *Hash
	if n := h.Write("abc"); n != 0 {
		t.Errorf("Write: %d", n)
	}
	h.Reset()
	if n := h.Len(); n != 0 {
		t.Errorf("Len: %d", n)
	}
	if h.Sum() != [32]byte{} {
		t.Errorf("Sum: %x", h.Sum())
	}
}

// R1: a zero hash is New().
func TestZeroHash(t *testing.T) {
	var h Hash
	wantHash(t, "zero", &h, "")
	h.Reset()
	wantHash(t, "zero, reset", &h, "")
	var g Hash
	if n := g.Write(counted(200)); n != 200 {
		t.Errorf("Write: %d", n)
	}
	wantHash(t, "zero, written", &g, counted(200))
}

// R3: parts are as they were, and of no effect behind the call.
func TestPartsStay(t *testing.T) {
	parts := []string{"a", counted(136), "c"}
	first := Sum(parts...)
	if parts[0] != "a" || parts[1] != counted(136) || parts[2] != "c" {
		t.Error("parts were changed")
	}
	told := first
	told[0]++
	parts[1] = "b"
	if Sum("a", counted(136), "c") != first || Sum(parts...) != Sum("abc") {
		t.Error("an earlier call has an effect")
	}
}

func BenchmarkSum(b *testing.B) {
	s := counted(1024)
	b.SetBytes(int64(len(s)))
	for b.Loop() {
		Sum(s)
	}
}
