package page

import (
	"encoding/hex"
	"fmt"
	"math"
	"math/rand"
	"strings"
	"testing"

	"loess/api"
)

func zeros(n int) string { return strings.Repeat("\x00", n) }

func full(n int) string { return strings.Repeat("\xff", n) }

// turned is a text with other bits in one of its bytes.
func turned(s string, at int, bits byte) string {
	b := []byte(s)
	b[at] ^= bits
	return string(b)
}

func drawn(draw *rand.Rand, n int) string {
	b := make([]byte, n)
	draw.Read(b)
	return string(b)
}

// short is a page for a fault's report: its head, its check, and as much of its body as is easily read.
func short(page string) string {
	return fmt.Sprintf("%d bytes %x", len(page), page[:min(len(page), 48)])
}

// seal is a page that must be.
func seal(t *testing.T, kind byte, body string) string {
	t.Helper()
	s, e := Seal(kind, body)
	if e != api.OK {
		t.Fatalf("Seal of %q, %d bytes: error %d", kind, len(body), e)
	}
	return s
}

func meta(t *testing.T, m api.Meta) string {
	t.Helper()
	s, e := Meta(m)
	if e != api.OK {
		t.Fatalf("Meta of %+v: error %d", m, e)
	}
	return s
}

func wantSeal(t *testing.T, kind byte, body string) {
	t.Helper()
	s, e := Seal(kind, body)
	want, wantErr := ruleSeal(kind, body)
	if s != want || e != wantErr {
		t.Errorf("Seal of %q, %d bytes: %s error %d, want %s error %d", kind, len(body), short(s), e, short(want), wantErr)
	}
}

func wantOpen(t *testing.T, what, page string, kind byte, body string) {
	t.Helper()
	k, b, e := Open(page)
	if k != kind || b != body || e != api.OK {
		t.Errorf("Open of %s: %q %.50x error %d, want %q %.50x", what, k, b, e, kind, body)
	}
}

// wantNone is that a page is no sealed one, and so no meta either; beside an error nothing is told (R2).
func wantNone(t *testing.T, what, page string) {
	t.Helper()
	k, b, e := Open(page)
	if k != 0 || b != "" || e != api.ErrStore {
		t.Errorf("Open of %s: %q %.50x error %d, want none and error %d", what, k, b, e, api.ErrStore)
	}
	wantNoMeta(t, what, page)
}

func wantMeta(t *testing.T, what, page string, want api.Meta) {
	t.Helper()
	m, e := ReadMeta(page)
	if m != want || e != api.OK {
		t.Errorf("ReadMeta of %s: %+v error %d, want %+v", what, m, e, want)
	}
}

func wantNoMeta(t *testing.T, what, page string) {
	t.Helper()
	m, e := ReadMeta(page)
	if m != (api.Meta{}) || e != api.ErrStore {
		t.Errorf("ReadMeta of %s: %+v error %d, want none and error %d", what, m, e, api.ErrStore)
	}
}

func wantNewest(t *testing.T, what, a, b string, want api.Meta, wantAt int, wantErr api.Errno) {
	t.Helper()
	m, at, e := Newest(a, b)
	if m != want || at != wantAt || e != wantErr {
		t.Errorf("Newest of %s: %+v %d error %d, want %+v %d error %d", what, m, at, e, want, wantAt, wantErr)
	}
}

// bodies are of all lengths at which something changes: of none, of one byte of the size and of two, about a meta's, about a hash's block, about a sector's end, up to the greatest.
func bodies() []string {
	var all []string
	for _, n := range []int{0, 1, 2, 3, 31, 32, 33, 132, 133, 134, 244, 245, 246, 255, 256, 257, 511, 512, 1012, 1013} {
		text := strings.Repeat("a body's text. ", n/15+1)[:n]
		all = append(all, text, zeros(n), full(n))
		if n > 0 {
			all = append(all, text[:n-1]+"\x00", "\x00"+text[:n-1])
		}
	}
	return all
}

// numbersOfMetas are those that a meta may have, up to the greatest.
func numbersOfMetas() []int {
	return []int{0, 1, 2, 255, 256, 65535, 65536, math.MaxInt32, math.MaxInt32 + 1, 1 << 32, 0x0102030405060708, math.MaxInt - 1, math.MaxInt}
}

// inTurn are metas each of whose numbers is n once, beside others.
func inTurn(n, other int) []api.Meta {
	return []api.Meta{
		{Tx: n, Root: other, Entries: other, Pages: other},
		{Tx: other, Root: n, Entries: other, Pages: other},
		{Tx: other, Root: other, Entries: n, Pages: other},
		{Tx: other, Root: other, Entries: other, Pages: n},
	}
}

// notMetas are pages that are none: no page at all, no sealed one, one of another kind or size, one with a number too great.
func notMetas(t *testing.T) []string {
	t.Helper()
	body := metaBody(3, 7, 9, 12)
	m := seal(t, 'M', body)
	return []string{
		"", "M", zeros(1024), full(1024), m[:1023], m + "\x00", turned(m, 20, 1),
		seal(t, 'L', body), seal(t, 'M', ""), seal(t, 'M', body[:31]), seal(t, 'M', body+"\x00"), seal(t, 'M', metaBody(1<<63, 0, 0, 0)),
	}
}

// The chapter's examples.
func TestExamples(t *testing.T) {
	s := seal(t, 'L', "abc")
	if s[:3] != "\x4c\x00\x03" || len(s) != 1024 {
		t.Errorf("Seal of L, abc: %s", short(s))
	}
	wantOpen(t, "it", s, 'L', "abc")
	wantNone(t, "it with one byte turned", turned(s, 12, 0xff))
	wantNone(t, "zeros", zeros(1024))

	three, four := api.Meta{Tx: 3, Root: 5, Entries: 2, Pages: 8}, api.Meta{Tx: 4, Root: 6, Entries: 3, Pages: 9}
	a, b := meta(t, three), meta(t, four)
	wantNewest(t, "Tx 3 and 4", a, b, four, 1, api.OK)
	wantNewest(t, "Tx 4 and zeros", b, zeros(1024), four, 0, api.OK)
	wantNewest(t, "zeros twice", zeros(1024), zeros(1024), api.Meta{}, 0, api.ErrStore)
}

// P8.1, P8.2: pages whose checks were worked out by another program than this one.
func TestPinned(t *testing.T) {
	of := func(kind byte, body string) string { return seal(t, kind, body) }
	for _, c := range []struct{ got, head, body string }{
		{of('L', "abc"), "4c0003" + "f61157172fbd59d8", "abc"},
		{of(0, ""), "000000" + "99ff0d9125e1fc95", ""},
		{of('x', strings.Repeat("y", 1013)), "7803f5" + "921caa0f6a19ded8", strings.Repeat("y", 1013)},
		{meta(t, api.Meta{}), "4d0020" + "4fa1c51a67df81d5", zeros(32)},
		{
			meta(t, api.Meta{Tx: 3, Root: 7, Entries: 9, Pages: 12}), "4d0020" + "f840c19892e3589f",
			zeros(7) + "\x03" + zeros(7) + "\x07" + zeros(7) + "\x09" + zeros(7) + "\x0c",
		},
		{
			meta(t, api.Meta{Tx: math.MaxInt, Root: math.MaxInt, Entries: math.MaxInt, Pages: math.MaxInt}), "4d0020" + "d403c0222884c818",
			strings.Repeat("\x7f"+full(7), 4),
		},
	} {
		head, err := hex.DecodeString(c.head)
		if err != nil {
			t.Fatal(err)
		}
		if want := string(head) + c.body + zeros(1013-len(c.body)); c.got != want {
			t.Errorf("%s, want %s", short(c.got), short(want))
		}
	}
}

// P8.1, P8.3: of no bytes, of MaxBody bytes, of every kind; Open of Seal is what was sealed.
func TestSeal(t *testing.T) {
	for kind := range 256 {
		for _, body := range []string{"", "abc", full(32), strings.Repeat("x", 1013)} {
			wantSeal(t, byte(kind), body)
			wantOpen(t, "Seal", seal(t, byte(kind), body), byte(kind), body)
		}
	}
	for _, body := range bodies() {
		wantSeal(t, 'L', body)
		wantOpen(t, "Seal", seal(t, 'L', body), 'L', body)
	}
}

// P8.1, P8.3: all lengths that a body may have.
func TestSealLengths(t *testing.T) {
	text := drawn(rand.New(rand.NewSource(81)), 1013)
	for n := range 1014 {
		s := seal(t, 'B', text[:n])
		if want, _ := ruleSeal('B', text[:n]); s != want {
			t.Errorf("Seal of %d bytes: %s, want %s", n, short(s), short(want))
		}
		wantOpen(t, "Seal", s, 'B', text[:n])
	}
}

// P8.1: one byte more than MaxBody, and many more, also such that two bytes would tell a right size of.
func TestSealTooLong(t *testing.T) {
	for _, n := range []int{1014, 1015, 1023, 1024, 1025, 2048, 65535, 65536, 65537, 65536 + 1013, 1 << 20} {
		for _, body := range []string{zeros(n), strings.Repeat("x", n)} {
			for _, kind := range []byte{0, 'L', 'M', 255} {
				s, e := Seal(kind, body)
				if s != "" || e != api.ErrSize {
					t.Errorf("Seal of %q, %d bytes: %s error %d, want none and error %d", kind, n, short(s), e, api.ErrSize)
				}
			}
		}
	}
}

// P8.1: texts that are shorter and longer than a page, and none.
func TestOpenLengths(t *testing.T) {
	for _, body := range []string{"", "abc", metaBody(3, 7, 9, 12), strings.Repeat("x", 1013)} {
		s := seal(t, 'M', body)
		for n := range 1024 {
			wantNone(t, fmt.Sprintf("%d bytes of a page", n), s[:n])
		}
		for _, more := range []string{"\x00", "x", zeros(1024), s, full(1 << 20)} {
			wantNone(t, fmt.Sprintf("a page and %d bytes", len(more)), s+more)
			wantNone(t, fmt.Sprintf("%d bytes and a page", len(more)), more+s)
		}
		wantNone(t, "a page without its first byte", s[1:])
		wantNone(t, "a page turned on by one byte", s[1:]+s[:1])
	}
}

// P8.1: pages of one byte alone, zeros among them.
func TestOpenAlike(t *testing.T) {
	for b := range 256 {
		wantNone(t, fmt.Sprintf("a page of %02x", b), strings.Repeat(string([]byte{byte(b)}), 1024))
		wantNone(t, fmt.Sprintf("zeros of kind %02x", b), string([]byte{byte(b)})+zeros(1023))
	}
}

// P8.1: a sealed page with any one byte turned: the kind, the size, the check, the body, the zeros behind it.
func TestOpenTurned(t *testing.T) {
	for _, body := range []string{"", "abc", metaBody(3, 7, 9, 12), full(500), strings.Repeat("x", 1013)} {
		s := seal(t, 'M', body)
		for at := range len(s) {
			for bit := range 8 {
				wantNone(t, fmt.Sprintf("a page of %d bytes, bit %d of byte %d turned", len(body), bit, at), turned(s, at, 1<<bit))
			}
			wantNone(t, fmt.Sprintf("a page of %d bytes, byte %d turned", len(body), at), turned(s, at, 0xff))
		}
	}
	s := seal(t, 'L', "abc")
	for at := range 20 {
		for bits := 1; bits < 256; bits++ {
			wantNone(t, fmt.Sprintf("a page, byte %d with %02x turned", at, bits), turned(s, at, byte(bits)))
		}
	}
}

// P8.1: sizes above MaxBody, with checks that would be right of what stands there, of what would stand there, or of nothing.
func TestOpenSize(t *testing.T) {
	for _, size := range []int{1014, 1015, 1021, 1022, 1023, 1024, 1025, 2048, 0x8003, 0xff03, 65534, 65535} {
		for _, body := range []string{zeros(1013), strings.Repeat("x", 1013), full(1013)} {
			what := fmt.Sprintf("a page of %d bytes", size)
			wantNone(t, what, laid('M', size, body, body))
			wantNone(t, what+", zeros behind", laid('M', size, body+zeros(size-1013), body))
			wantNone(t, what+", the same behind", laid('M', size, strings.Repeat(body[:1], size), body))
			wantNone(t, what+", cut by a bit", laid('M', size, body[:size%1024%1014], body))
			wantNone(t, what+", nothing hashed", laid('M', size, "", body))
		}
	}
}

// P8.1: a size that is not the body's. With the check right for it, bytes behind the body are its only fault; zeros that the size counts in are the body's own.
func TestOpenOtherSize(t *testing.T) {
	for _, n := range []int{1, 2, 255, 256, 1012, 1013} {
		body := full(n)
		wantNone(t, "a page that says one byte less", laid('L', n-1, body[:n-1], body))
		wantNone(t, "a page that says none", laid('L', 0, "", body))
		wantNone(t, "a page with another size's check", laid('L', n-1, body, body))
	}
	for _, n := range []int{0, 1, 2, 255, 256, 1012} {
		body := full(n)
		wantNone(t, "a page with another size's check", laid('L', n+1, body, body))
		wantOpen(t, "a body with a zero at its end", laid('L', n+1, body+"\x00", body), 'L', body+"\x00")
	}
	for at := 14; at < 1024; at++ {
		page := laid('L', 3, "abc", "abc"+zeros(at-14)+"x")
		wantNone(t, fmt.Sprintf("a page with a byte at %d, behind its body", at), page)
	}
}

// P8.1: the check is the first bytes of the hash, of kind, size and body.
func TestOpenCheck(t *testing.T) {
	s, other := seal(t, 'L', "abc"), seal(t, 'L', "abd")
	wantNone(t, "a page with another's check", s[:3]+other[3:11]+s[11:])
	wantNone(t, "a page with another's body", s[:11]+other[11:])
	wantNone(t, "a page with zeros as its check", s[:3]+zeros(8)+s[11:])
	wantNone(t, "a page with another kind's check", s[:3]+seal(t, 'M', "abc")[3:11]+s[11:])
	wantNone(t, "a page with its check's bytes the other way round", s[:3]+string([]byte{s[10], s[9], s[8], s[7], s[6], s[5], s[4], s[3]})+s[11:])
}

// P8.1: whatever stands on a page, Open is what the chapter's words say, all bodies tried.
func TestOpenByRule(t *testing.T) {
	draw := rand.New(rand.NewSource(82))
	for range 200 {
		n := draw.Intn(1014)
		body := drawn(draw, n)
		page := laid(byte(draw.Intn(256)), n, body, body)
		switch draw.Intn(4) {
		case 0:
			page = turned(page, draw.Intn(1024), byte(1+draw.Intn(255)))
		case 1:
			page = laid(page[0], draw.Intn(1100), body, body)
		case 2:
			page = laid(page[0], n+draw.Intn(3)-1, body, body)
		}
		k, b, e := Open(page)
		wantKind, wantBody, wantErr := ruleOpen(page)
		if k != wantKind || b != wantBody || e != wantErr {
			t.Errorf("Open of %s: %q %.50x error %d, want %q %.50x error %d", short(page), k, b, e, wantKind, wantBody, wantErr)
		}
	}
}

// P8.2: each number 0, and as great as it may be, alone and with the others; ReadMeta is back again.
func TestMeta(t *testing.T) {
	for _, n := range numbersOfMetas() {
		for _, other := range []int{0, 1, math.MaxInt} {
			for _, m := range inTurn(n, other) {
				s := meta(t, m)
				if want, _ := ruleMeta(m); s != want {
					t.Errorf("Meta of %+v: %s, want %s", m, short(s), short(want))
				}
				wantMeta(t, "Meta", s, m)
				wantOpen(t, "Meta", s, 'M', metaBody(uint64(m.Tx), uint64(m.Root), uint64(m.Entries), uint64(m.Pages)))
			}
		}
	}
}

// P8.2: each number below 0, alone and with the others.
func TestMetaBelow(t *testing.T) {
	for _, n := range []int{-1, -2, -255, -256, math.MinInt32, math.MinInt + 1, math.MinInt} {
		for _, other := range []int{0, 1, math.MaxInt, -1} {
			for _, m := range inTurn(n, other) {
				s, e := Meta(m)
				if s != "" || e != api.ErrArg {
					t.Errorf("Meta of %+v: %s error %d, want none and error %d", m, short(s), e, api.ErrArg)
				}
			}
		}
	}
}

// P8.2: a page of another kind with a meta's body.
func TestReadMetaKind(t *testing.T) {
	body := metaBody(3, 7, 9, 12)
	for kind := range 256 {
		s := seal(t, byte(kind), body)
		if kind == 'M' {
			wantMeta(t, "kind M", s, api.Meta{Tx: 3, Root: 7, Entries: 9, Pages: 12})
		} else {
			wantNoMeta(t, fmt.Sprintf("kind %02x", kind), s)
		}
	}
}

// P8.2: a sealed body that is shorter or longer.
func TestReadMetaSize(t *testing.T) {
	for _, text := range []string{metaBody(3, 7, 9, 12) + zeros(981), zeros(1013), strings.Repeat("\x00\x00\x00\x00\x00\x00\x00\x01", 127)[:1013]} {
		for n := range 1014 {
			if n != 32 {
				wantNoMeta(t, fmt.Sprintf("%d bytes", n), seal(t, 'M', text[:n]))
			}
		}
	}
}

// P8.2: numbers that would be below 0, any of the four.
func TestReadMetaBelow(t *testing.T) {
	for _, n := range []uint64{1 << 63, 1<<63 | 1, 1<<63 | 1<<32, 0x80ff000000000000, 1<<64 - 256, math.MaxUint64 - 1, math.MaxUint64} {
		for _, other := range []uint64{0, 5, math.MaxInt, n} {
			for _, body := range []string{metaBody(n, other, other, other), metaBody(other, n, other, other), metaBody(other, other, n, other), metaBody(other, other, other, n)} {
				s := seal(t, 'M', body)
				wantOpen(t, "what is no meta", s, 'M', body)
				wantNoMeta(t, fmt.Sprintf("%x", body), s)
			}
		}
	}
}

// P8.2: a text that is no page, or no sealed one.
func TestReadMetaNone(t *testing.T) {
	for _, s := range notMetas(t) {
		wantNoMeta(t, short(s), s)
	}
}

// P8.2: below 0, 0, 1 and great ones.
func TestSlot(t *testing.T) {
	for _, c := range []struct{ tx, want int }{
		{0, 0}, {1, 1}, {2, 0}, {3, 1}, {4, 0}, {7, 1}, {255, 1}, {256, 0},
		{math.MaxInt32, 1}, {math.MaxInt32 + 1, 0}, {1 << 62, 0}, {math.MaxInt - 1, 0}, {math.MaxInt, 1},
		{-1, 0}, {-2, 0}, {-3, 0}, {-7, 0}, {math.MinInt32, 0}, {math.MinInt + 1, 0}, {math.MinInt, 0},
	} {
		if got := Slot(c.tx); got != c.want {
			t.Errorf("Slot(%d): %d, want %d", c.tx, got, c.want)
		}
	}
	for tx := range 100 {
		if Slot(tx) == Slot(tx+1) {
			t.Errorf("transactions %d and %d have one page", tx, tx+1)
		}
	}
}

// P8.2: two metas either way round, two alike, one and none, none and one, neither. Only Tx is asked: the other numbers may be greater or less.
func TestNewest(t *testing.T) {
	none := notMetas(t)
	for _, x := range numbersOfMetas() {
		for _, y := range numbersOfMetas() {
			a, b := api.Meta{Tx: x, Root: 9, Entries: 1, Pages: 12}, api.Meta{Tx: y, Root: 2, Entries: 40, Pages: 3}
			m, at, e := ruleNewest(a, true, b, true)
			wantNewest(t, fmt.Sprintf("Tx %d and %d", x, y), meta(t, a), meta(t, b), m, at, e)
			m, at, e = ruleNewest(b, true, a, true)
			wantNewest(t, fmt.Sprintf("Tx %d and %d", y, x), meta(t, b), meta(t, a), m, at, e)
		}
		a := api.Meta{Tx: x, Root: 1, Entries: 1, Pages: 1}
		for _, no := range none {
			wantNewest(t, fmt.Sprintf("Tx %d and none", x), meta(t, a), no, a, 0, api.OK)
			wantNewest(t, fmt.Sprintf("none and Tx %d", x), no, meta(t, a), a, 1, api.OK)
		}
	}
	for _, a := range none {
		for _, b := range none {
			wantNewest(t, short(a)+" and "+short(b), a, b, api.Meta{}, 0, api.ErrStore)
		}
	}
}

// P8.2: of two of the same Tx, that of page 0, the same one or another.
func TestNewestAlike(t *testing.T) {
	for _, tx := range numbersOfMetas() {
		a, b := api.Meta{Tx: tx, Root: 1, Entries: 2, Pages: 3}, api.Meta{Tx: tx, Root: 4, Entries: 5, Pages: 6}
		wantNewest(t, "two of one Tx", meta(t, a), meta(t, b), a, 0, api.OK)
		wantNewest(t, "two of one Tx", meta(t, b), meta(t, a), b, 0, api.OK)
		wantNewest(t, "one twice", meta(t, a), meta(t, a), a, 0, api.OK)
	}
	wantNewest(t, "zeros' metas", meta(t, api.Meta{}), meta(t, api.Meta{}), api.Meta{}, 0, api.OK)
	wantNewest(t, "none and zeros' meta", zeros(1024), meta(t, api.Meta{}), api.Meta{}, 1, api.OK)
}

// P8.2: the page is told by where the meta stands, not by its Tx.
func TestNewestOnOtherPage(t *testing.T) {
	even, odd := api.Meta{Tx: 4, Root: 1}, api.Meta{Tx: 5, Root: 2}
	wantNewest(t, "an even Tx on page 1", zeros(1024), meta(t, even), even, 1, api.OK)
	wantNewest(t, "an odd Tx on page 0", meta(t, odd), meta(t, even), odd, 0, api.OK)
}

// mixed is a with those sectors of b whose bits are 1 in picks.
func mixed(a, b string, picks int) string {
	s := ""
	for i := range 4 {
		from := a
		if picks>>i&1 == 1 {
			from = b
		}
		s += from[256*i : 256*i+256]
	}
	return s
}

// P8.3: a meta page of which any sectors are another meta page's is one of the two, by whose its first sector is.
func TestMetaMixed(t *testing.T) {
	draw := rand.New(rand.NewSource(83))
	all := []api.Meta{{}, {Tx: 1}, {Tx: 3, Root: 7, Entries: 9, Pages: 12}, {Tx: math.MaxInt, Root: math.MaxInt, Entries: math.MaxInt, Pages: math.MaxInt}}
	for range 20 {
		all = append(all, api.Meta{Tx: draw.Int(), Root: draw.Int(), Entries: draw.Int(), Pages: draw.Int()})
	}
	for _, a := range all {
		for _, b := range all {
			old, next := meta(t, a), meta(t, b)
			if old[256:] != next[256:] {
				t.Errorf("%+v and %+v differ behind the first sector", a, b)
			}
			for picks := range 16 {
				want := a
				if picks&1 == 1 {
					want = b
				}
				wantMeta(t, fmt.Sprintf("%+v with sectors %04b of %+v", a, picks, b), mixed(old, next, picks), want)
			}
		}
	}
}

// P8.3: a store's two meta pages, one of them torn while it is written: Newest finds the last state or the next one.
func TestNewestTorn(t *testing.T) {
	for tx := range 6 {
		before := api.Meta{Tx: tx, Root: tx + 10, Entries: tx, Pages: 20}
		last := api.Meta{Tx: tx + 1, Root: tx + 11, Entries: tx + 1, Pages: 21}
		next := api.Meta{Tx: tx + 2, Root: tx + 12, Entries: tx + 2, Pages: 22}
		for picks := range 16 {
			var pages [2]string
			pages[Slot(last.Tx)] = meta(t, last)
			pages[Slot(next.Tx)] = mixed(meta(t, before), meta(t, next), picks)
			want := last
			if picks&1 == 1 {
				want = next
			}
			wantNewest(t, fmt.Sprintf("a torn page %04b", picks), pages[0], pages[1], want, Slot(want.Tx), api.OK)

			pages[Slot(next.Tx)] = mixed(zeros(1024), meta(t, next), picks)
			wantNewest(t, fmt.Sprintf("a first page torn %04b", picks), pages[0], pages[1], want, Slot(want.Tx), api.OK)
		}
	}
}

// P8.3: Open of Seal, and ReadMeta of Meta, of anything.
func TestThereAndBack(t *testing.T) {
	draw := rand.New(rand.NewSource(84))
	for range 500 {
		kind, body := byte(draw.Intn(256)), drawn(draw, draw.Intn(1014))
		wantSeal(t, kind, body)
		wantOpen(t, "Seal", seal(t, kind, body), kind, body)
		m := api.Meta{Tx: draw.Int() >> draw.Intn(63), Root: draw.Int() >> draw.Intn(63), Entries: draw.Int() >> draw.Intn(63), Pages: draw.Int() >> draw.Intn(63)}
		wantMeta(t, "Meta", meta(t, m), m)
	}
}

// P1, R4: every call ends at all texts, and tells the same again.
func TestAnyText(t *testing.T) {
	draw := rand.New(rand.NewSource(85))
	for range 500 {
		s := drawn(draw, max(0, draw.Intn(4)*512+draw.Intn(3)-1))
		k, b, e := Open(s)
		again, bodyAgain, errAgain := Open(s)
		if k != again || b != bodyAgain || e != errAgain {
			t.Errorf("Open of %s: twice other answers", short(s))
		}
		if e == api.OK && seal(t, k, b) != s || e != api.OK && e != api.ErrStore {
			t.Errorf("Open of %s: %q %.50x error %d", short(s), k, b, e)
		}
		ReadMeta(s)
		Newest(s, s)
		if x, f := Seal(k, s); f == api.OK {
			if y, _ := Seal(k, s); x != y {
				t.Errorf("Seal of %s: twice other answers", short(s))
			}
		}
	}
}

// FuzzOpen: a page that opens is the Seal of what it tells, and the chapter's rule says the same.
func FuzzOpen(f *testing.F) {
	for _, body := range []string{"", "abc", metaBody(3, 7, 9, 12), metaBody(1<<63, 0, 0, 0), full(1013)} {
		s, _ := ruleSeal('M', body)
		f.Add(s)
	}
	f.Add("")
	f.Add(zeros(1024))
	f.Fuzz(func(t *testing.T, s string) {
		k, b, e := Open(s)
		wantKind, wantBody, wantErr := ruleOpen(s)
		if k != wantKind || b != wantBody || e != wantErr {
			t.Errorf("Open of %s: %q %.50x error %d, want %q %.50x error %d", short(s), k, b, e, wantKind, wantBody, wantErr)
		}
		if m, e := ReadMeta(s); e == api.OK && meta(t, m) != s {
			t.Errorf("ReadMeta of %s: %+v", short(s), m)
		}
	})
}
