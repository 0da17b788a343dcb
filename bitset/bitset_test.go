package bitset

import (
	"encoding/hex"
	"math"
	"math/rand"
	"slices"
	"strings"
	"testing"

	"loess/api"
)

func unhex(t *testing.T, digits string) string {
	t.Helper()
	b, err := hex.DecodeString(strings.ReplaceAll(digits, " ", ""))
	if err != nil {
		t.Fatal(err)
	}
	return string(b)
}

// run is the numbers from first to last.
func run(first, last int) []int {
	var l []int
	for n := first; n <= last; n++ {
		l = append(l, n)
	}
	return l
}

// noMembers are numbers that may be none.
func noMembers() []int {
	return []int{-1, -2, -255, -256, -257, math.MinInt32, math.MinInt, api.MaxBlock + 1, api.MaxBlock + 256, api.MaxBlock + 257, 1 << 32, 1<<32 + 5, 1 << 40, math.MaxInt}
}

// edges are numbers at and beside the edges of the containers, of the members and of all numbers.
func edges() []int {
	return append(noMembers(), 0, 1, 5, 254, 255, 256, 257, 300, 511, 512, 513, 65535, 65536, 65537, 1<<24-1, 1<<24, api.MaxBlock-256, api.MaxBlock-255, api.MaxBlock-254, api.MaxBlock-1, api.MaxBlock)
}

// lists are the members of sets of all kinds: with none, one and many containers, with lists, bits, both.
func lists() [][]int {
	return [][]int{
		nil, {0}, {5}, {255}, {256}, {257}, {api.MaxBlock},
		{5, 300}, {255, 256}, {254, 255, 256, 257}, {0, 256, 512}, {0, api.MaxBlock}, {1, 65536, 1 << 24, api.MaxBlock},
		run(0, 31), run(0, 32), run(0, 255), run(0, 256), run(1, 255), run(224, 255), run(223, 255), run(240, 300), run(200, 800),
		slices.Concat(run(0, 31), run(512, 544)), slices.Concat(run(10, 50), []int{300}, run(512, 767), []int{100000}),
		run(api.MaxBlock-300, api.MaxBlock),
	}
}

// wantSet holds all that a set tells against the rules; the set is none but for its members.
func wantSet(t *testing.T, what string, s *Set, members []int) {
	t.Helper()
	if got := s.Members(); !slices.Equal(got, members) {
		t.Fatalf("%s: members %v, want %v", what, got, members)
	}
	if got := s.Len(); got != len(members) {
		t.Errorf("%s: Len %d, want %d", what, got, len(members))
	}
	if got, want := s.Bytes(), ruleBytes(members); got != want {
		t.Errorf("%s: Bytes %x, want %x", what, got, want)
	}
	got, ok := s.Greatest()
	if want, there := ruleGreatest(members); got != want || ok != there {
		t.Errorf("%s: Greatest %d %v, want %d %v", what, got, ok, want, there)
	}
}

func wantAsked(t *testing.T, s *Set, members []int, n int) {
	t.Helper()
	if got, want := s.Has(n), slices.Contains(members, n); got != want {
		t.Errorf("Has of %d in %v: %v", n, members, got)
	}
	got, ok := s.Least(n)
	if want, there := ruleLeast(members, n); got != want || ok != there {
		t.Errorf("Least from %d in %v: %d %v, want %d %v", n, members, got, ok, want, there)
	}
	if got, want := slices.Collect(s.Each(n)), members[ruleCut(members, n):]; !slices.Equal(got, want) {
		t.Errorf("Each from %d in %v: %v, want %v", n, members, got, want)
	}
}

func wantRead(t *testing.T, b string, members []int) {
	t.Helper()
	s, e := Read(b)
	if s == nil || e != api.OK {
		t.Fatalf("Read of %x: error %d", b, e)
	}
	wantSet(t, "Read of "+hex.EncodeToString([]byte(b)), s, members)
}

func wantNoSet(t *testing.T, b string) {
	t.Helper()
	s, e := Read(b)
	if s != nil || e != api.ErrForm {
		t.Errorf("Read of %x: %v error %d, want nil and error %d", b, s.Members(), e, api.ErrForm)
	}
}

// The chapter's examples.
func TestExamples(t *testing.T) {
	s := New(5, 300, 5, -1)
	wantSet(t, "New(5, 300, 5, -1)", s, []int{5, 300})
	if got, want := s.Bytes(), unhex(t, "00 00 00 00 05 00 00 01 00 2c"); got != want {
		t.Errorf("Bytes: %x, want %x", got, want)
	}
	if n, ok := s.Least(6); n != 300 || !ok {
		t.Errorf("Least(6): %d %v", n, ok)
	}
	if n, ok := s.Least(301); n != 0 || ok {
		t.Errorf("Least(301): %d %v", n, ok)
	}
	if n := s.Cut(6); n != 1 {
		t.Errorf("Cut(6): %d", n)
	}
	if n := s.Len(); n != 1 {
		t.Errorf("Len: %d", n)
	}
	wantNoSet(t, unhex(t, "00 00 00 00"))
	wantNoSet(t, unhex(t, "00 00 00 01 05 05"))
}

// P5.1: New of nothing, of numbers twice and in any order, of those that may be none.
func TestNew(t *testing.T) {
	wantSet(t, "New()", New(), nil)
	wantSet(t, "New of nil", New(nil...), nil)
	wantSet(t, "New of twice", New(7, 7, 300, 7, 300), []int{7, 300})
	wantSet(t, "New of falling", New(300, 256, 255, 5, 0), []int{0, 5, 255, 256, 300})
	wantSet(t, "New of MaxBlock", New(api.MaxBlock), []int{api.MaxBlock})
	wantSet(t, "New of 0", New(0), []int{0})
	for _, n := range noMembers() {
		wantSet(t, "New of one that may be none", New(n), nil)
		wantSet(t, "New of one that may be none, and 9", New(n, 9, n), []int{9})
	}
	for _, l := range lists() {
		wantSet(t, "New", New(l...), l)
	}
	wantSet(t, "New of edges", New(edges()...), ruleNew(edges()...))
}

// P5.1: true once for each number that may be a member, false for others.
func TestAdd(t *testing.T) {
	s, members := New(), []int{}
	for _, n := range edges() {
		may := 0 <= n && n <= api.MaxBlock
		if s.Add(n) != may {
			t.Errorf("Add of %d: %v", n, !may)
		}
		if s.Add(n) {
			t.Errorf("Add of %d once more: true", n)
		}
		if s.Has(n) != may {
			t.Errorf("Has of %d behind Add: %v", n, !may)
		}
		members = ruleNew(append(members, n)...)
		wantSet(t, "behind Add", s, members)
	}
}

// P5.1: each number of a container, by itself and among all others.
func TestAddEach(t *testing.T) {
	for low := range 256 {
		n := 3*256 + low
		wantSet(t, "one", New(n), []int{n})
		s, others := New(), slices.DeleteFunc(run(3*256, 3*256+255), func(m int) bool { return m == n })
		for _, m := range others {
			if !s.Add(m) {
				t.Errorf("Add of %d: false", m)
			}
		}
		wantSet(t, "all but one", s, others)
		if s.Has(n) || !s.Add(n) || s.Add(n) {
			t.Errorf("Add of %d as the last one is wrong", n)
		}
		wantSet(t, "all", s, run(3*256, 3*256+255))
	}
}

// P5.1: from below all numbers, at members, beside them, at the containers' edges, behind all; and Add behind it.
func TestCut(t *testing.T) {
	for _, l := range lists() {
		for _, from := range append(edges(), l...) {
			s, keep := New(l...), ruleCut(l, from)
			if got, want := s.Cut(from), len(l)-keep; got != want {
				t.Errorf("Cut from %d of %v: %d, want %d", from, l, got, want)
			}
			wantSet(t, "behind Cut", s, l[:keep])
			if got := s.Cut(from); got != 0 {
				t.Errorf("Cut from %d once more: %d", from, got)
			}
			for _, n := range l[keep:] {
				if s.Has(n) || !s.Add(n) {
					t.Errorf("%d was cut from %d, and is a member or can't be one again", n, from)
				}
			}
			wantSet(t, "Add behind Cut", s, l)
		}
	}
}

// P5.1: Cut and Add across the edges of containers, told one by one.
func TestCutEdges(t *testing.T) {
	for _, c := range []struct {
		from, cut int
		rest      []int
	}{
		{-1, 5, nil},
		{0, 5, nil},
		{254, 5, nil},
		{255, 4, []int{254}},
		{256, 3, []int{254, 255}},
		{257, 2, []int{254, 255, 256}},
		{258, 1, []int{254, 255, 256, 257}},
		{511, 1, []int{254, 255, 256, 257}},
		{600, 1, []int{254, 255, 256, 257}},
		{601, 0, []int{254, 255, 256, 257, 600}},
		{api.MaxBlock, 0, []int{254, 255, 256, 257, 600}},
		{math.MaxInt, 0, []int{254, 255, 256, 257, 600}},
	} {
		s := New(254, 255, 256, 257, 600)
		if got := s.Cut(c.from); got != c.cut {
			t.Errorf("Cut from %d: %d, want %d", c.from, got, c.cut)
		}
		wantSet(t, "behind Cut", s, c.rest)
		s.Add(1000)
		wantSet(t, "Add behind Cut", s, append(slices.Clone(c.rest), 1000))
	}
}

// P5.1: Has, Least and Each at all edges and beside each member.
func TestAsked(t *testing.T) {
	for _, l := range lists() {
		s := New(l...)
		wantSet(t, "asked", s, l)
		for _, n := range edges() {
			wantAsked(t, s, l, n)
		}
		for _, n := range l {
			wantAsked(t, s, l, n-1)
			wantAsked(t, s, l, n)
			wantAsked(t, s, l, n+1)
		}
		wantSet(t, "asked before", s, l)
	}
}

// P5.1: members told one by one, without the rules.
func TestAskedKnown(t *testing.T) {
	s := New(10, 20, 255, 256, 1000)
	for _, c := range []struct {
		from, want int
		there      bool
	}{
		{math.MinInt, 10, true}, {-1, 10, true}, {0, 10, true}, {10, 10, true}, {11, 20, true}, {21, 255, true}, {255, 255, true},
		{256, 256, true}, {257, 1000, true}, {999, 1000, true}, {1000, 1000, true}, {1001, 0, false}, {api.MaxBlock, 0, false}, {math.MaxInt, 0, false},
	} {
		if n, ok := s.Least(c.from); n != c.want || ok != c.there {
			t.Errorf("Least from %d: %d %v, want %d %v", c.from, n, ok, c.want, c.there)
		}
	}
	if n, ok := s.Greatest(); n != 1000 || !ok {
		t.Errorf("Greatest: %d %v", n, ok)
	}
	if n, ok := New().Greatest(); n != 0 || ok {
		t.Errorf("Greatest of none: %d %v", n, ok)
	}
	if n, ok := New(0).Greatest(); n != 0 || !ok {
		t.Errorf("Greatest of 0 alone: %d %v", n, ok)
	}
}

// P5.1: of each two lists; neither set is changed by it, nor by what is done to the union, nor the union by what is done to them.
func TestUnion(t *testing.T) {
	for _, a := range lists() {
		for _, b := range lists() {
			x, y := New(a...), New(b...)
			both := ruleNew(slices.Concat(a, b)...)
			u := x.Union(y)
			wantSet(t, "Union", u, both)
			wantSet(t, "s behind Union", x, a)
			wantSet(t, "o behind Union", y, b)
			u.Add(77)
			u.Cut(100)
			wantSet(t, "s behind a change of the union", x, a)
			wantSet(t, "o behind a change of the union", y, b)
			u = x.Union(y)
			x.Add(3)
			x.Cut(256)
			y.Add(4)
			y.Cut(20)
			wantSet(t, "Union behind changes of s and o", u, both)
		}
	}
}

// P5.1: with nil, with itself, with one that has the same containers; a new set each time.
func TestUnionKnown(t *testing.T) {
	s, o := New(1, 2, 600), New(2, 3, 601, 1000)
	u := s.Union(o)
	wantSet(t, "Union", u, []int{1, 2, 3, 600, 601, 1000})
	for what, u := range map[string]*Set{"with nil": s.Union(nil), "with itself": s.Union(s), "with none": s.Union(New()), "of none": New().Union(s)} {
		wantSet(t, what, u, []int{1, 2, 600})
		u.Add(9)
		u.Cut(600)
		wantSet(t, "s behind a change of its union "+what, s, []int{1, 2, 600})
	}
}

// P5.1: each place to stop at: yield is not called again, and what it was told is the beginning of all.
func TestEachStops(t *testing.T) {
	for _, l := range lists() {
		s := New(l...)
		for _, from := range []int{-5, 0, 6, 256, 300} {
			want := l[ruleCut(l, from):]
			for stop := 1; stop <= min(len(want), 40); stop++ {
				var got []int
				s.Each(from)(func(n int) bool {
					got = append(got, n)
					return len(got) < stop
				})
				if !slices.Equal(got, want[:stop]) {
					t.Errorf("Each from %d stopped behind %d: %v, want %v", from, stop, got, want[:stop])
				}
			}
		}
	}
}

// R3: what Each tells is gone over as often as one likes, and is not changed by what is done to the set.
func TestEachStays(t *testing.T) {
	s := New(5, 255, 256, 300, 1000)
	each, want := s.Each(6), []int{255, 256, 300, 1000}
	for range 2 {
		if got := slices.Collect(each); !slices.Equal(got, want) {
			t.Errorf("Each: %v", got)
		}
	}
	s.Add(7)
	s.Add(2000)
	s.Cut(256)
	if got := slices.Collect(each); !slices.Equal(got, want) {
		t.Errorf("Each behind changes: %v", got)
	}
}

// P1: Each ends and tells its members, whatever is done to the set meanwhile; a nil yield is never called.
func TestEachWhileChanged(t *testing.T) {
	s := New(5, 300, 1000)
	var got []int
	for n := range s.Each(0) {
		got = append(got, n)
		s.Add(n + 1)
		s.Add(n + 256)
		s.Cut(n)
	}
	if !slices.Equal(got, []int{5, 300, 1000}) {
		t.Errorf("Each while changed: %v", got)
	}
	New(5, 300).Each(0)(nil)
	New().Each(0)(nil)
}

// R3: what is handed in stays as it is, and is not kept; what is told may be changed.
func TestMemory(t *testing.T) {
	l := []int{300, 5, 5, -1}
	s := New(l...)
	if !slices.Equal(l, []int{300, 5, 5, -1}) {
		t.Errorf("New changed what it was given: %v", l)
	}
	l[0] = 9
	wantSet(t, "its list changed", s, []int{5, 300})
	m := s.Members()
	m[0], m[1] = 1, 2
	wantSet(t, "its members changed", s, []int{5, 300})
	m = s.Members()
	s.Cut(0)
	s.Add(8)
	if !slices.Equal(m, []int{5, 300}) {
		t.Errorf("Members changed behind the call: %v", m)
	}
	r, _ := Read(New(5, 300).Bytes())
	r.Add(301)
	r.Cut(5)
	again, _ := Read(New(5, 300).Bytes())
	wantSet(t, "read again", again, []int{5, 300})
}

// P5.2: lists of 1 and 32 members, bits of 33, 255 and 256, upper parts of all lengths, written out.
func TestBytesKnown(t *testing.T) {
	first32 := strings.Repeat("ff", 4) + strings.Repeat("00", 28)
	for _, c := range []struct {
		members []int
		want    string
	}{
		{nil, ""},
		{[]int{0}, "000000 00 00"},
		{[]int{255}, "000000 00 ff"},
		{[]int{256}, "000001 00 00"},
		{[]int{0x12345678}, "123456 00 78"},
		{[]int{api.MaxBlock}, "7fffff 00 ff"},
		{[]int{1, 2, 255, 258, 0x10000}, "000000 02 0102ff 000001 00 02 000100 00 00"},
		{run(0, 31), "000000 1f 000102030405060708090a0b0c0d0e0f101112131415161718191a1b1c1d1e1f"},
		{run(0, 32), "000000 20" + first32[:8] + "01" + first32[10:]},
		{append(run(0, 31), 255), "000000 20" + first32[:62] + "80"},
		{append(run(0, 31), 74), "000000 20" + first32[:18] + "04" + first32[20:]},
		{run(0, 255), "000000 ff" + strings.Repeat("ff", 32)},
		{run(257, 511), "000001 fe fe" + strings.Repeat("ff", 31)},
		{run(256, 512), "000001 ff" + strings.Repeat("ff", 32) + "000002 00 00"},
	} {
		b := unhex(t, c.want)
		if got := New(c.members...).Bytes(); got != b {
			t.Errorf("Bytes of %v: %x, want %x", c.members, got, b)
		}
		wantRead(t, b, c.members)
	}
}

// P5.2: from 1 to 256 members of one container: the length tells the kind.
func TestBytesKinds(t *testing.T) {
	draw := rand.New(rand.NewSource(1))
	for n := 1; n <= 256; n++ {
		var l []int
		for _, low := range draw.Perm(256)[:n] {
			l = append(l, 0x0a0b00+low)
		}
		b := New(l...).Bytes()
		if want := 4 + min(n, 32); len(b) != want || int(b[3]) != n-1 {
			t.Errorf("Bytes of %d members: %x", n, b)
		}
		wantSet(t, "some of a container", New(l...), ruleNew(l...))
		wantRead(t, b, ruleNew(l...))
	}
}

// P5.2: each way in which bytes are no set's.
func TestReadOfNone(t *testing.T) {
	list32 := hex.EncodeToString([]byte(New(run(0, 31)...).Bytes()[4:]))
	bits32 := strings.Repeat("ff", 4) + strings.Repeat("00", 28)
	bits33 := strings.Repeat("00", 27) + "01" + strings.Repeat("ff", 4)
	full := strings.Repeat("ff", 32)
	for _, digits := range []string{
		"00", "0000", "000000", "00000000", "000000 01 05", "000000 1f" + list32[2:], "000000 20", "000000 20" + bits33[2:], "000000 ff" + full[2:], // cut short
		"000000 00 05 00", "000000 00 05 000001", "000000 00 05 00000100", "000000 00 05 000001 01 05",
		"000000 01 0505", "000000 01 0605", "000000 01 ff00", "000000 02 050605", "000000 02 050606", "000000 02 050504", "000000 1f" + list32[2:] + "1f", "000000 1f" + list32[:62] + "1e", // lower parts that do not rise
		"000000 20" + bits32, "000000 21" + bits33, "000000 20" + full, "000000 ff" + bits33, "000000 fe" + full, "000000 ff" + full[2:] + "fe", "000000 20" + strings.Repeat("00", 32), "000000 80" + strings.Repeat("00", 32), // bits whose count is another
		"000000 1f" + bits32, "000000 00 01" + strings.Repeat("00", 31), "000000 1f" + bits33, "000000 01" + strings.Repeat("00", 31) + "03", // bits where a list is asked for
		"000000 20" + list32 + "20", "000000 20" + list32, // a list where bits are asked for
		"000000 00 05 000000 00 06", "000000 00 05 000000 00 05", "000000 20" + bits33 + "000000 00 05", // a container twice
		"000001 00 05 000000 00 05", "000100 00 05 0000ff 00 05", "010000 00 05 00ffff 00 05", "000002 00 05 000003 00 05 000003 00 06", "000000 00 05 000002 00 05 000001 00 05", // upper parts that do not rise
		"800000 00 00", "800000 00 ff", "ffffff 00 05", "000000 00 05 800000 00 05", "800000 20" + bits33, "ffffff ff" + full, // an upper part that is too great
		"000000 00 05 06", "000000 20" + bits33 + "00", "000000 1f" + list32 + "20", "7fffff 00 ff 00", "000000 ff" + full + "ff", // bytes behind
	} {
		b := unhex(t, digits)
		wantNoSet(t, b)
		if _, ok := ruleRead(b); ok {
			t.Errorf("%x is a set's bytes by the rules", b)
		}
	}
	wantRead(t, "", nil)
	wantRead(t, unhex(t, "000000 20"+bits33), append([]int{216}, run(224, 255)...))
	wantRead(t, unhex(t, "7fffff ff"+full), run(api.MaxBlock-255, api.MaxBlock))
}

// P5.2: all texts of at most 14 bytes from two, and of at most seven from six, are read as the rules say.
func TestReadOfAll(t *testing.T) {
	found := 0
	for _, c := range []struct {
		some string
		most int
	}{{"\x00\x01", 14}, {"\x00\x01\x02\x7f\x80\xff", 7}} {
		for _, b := range texts(c.some, c.most) {
			if members, ok := ruleRead(b); ok {
				wantRead(t, b, members)
				found++
			} else {
				wantNoSet(t, b)
			}
		}
	}
	if found < 100 {
		t.Errorf("only %d sets were among them", found)
	}
}

// texts is every text of at most that many bytes, all of them from some.
func texts(some string, most int) []string {
	all, level := []string{""}, []string{""}
	for range most {
		var next []string
		for _, s := range level {
			for i := range len(some) {
				next = append(next, s+some[i:i+1])
			}
		}
		all = append(all, next...)
		level = next
	}
	return all
}

// P5.2: a set's bytes with a byte more, less or changed are another set's, or none's.
func TestReadOfChanged(t *testing.T) {
	draw := rand.New(rand.NewSource(2))
	for _, l := range lists() {
		s := New(l...).Bytes()
		for at := range len(s) {
			b := string([]byte{byte(draw.Intn(256))})
			near := string([]byte{s[at] ^ 1<<draw.Intn(8)})
			for _, changed := range []string{s[:at] + b + s[at+1:], s[:at] + near + s[at+1:], s[:at] + s[at+1:], s[:at] + b + s[at:], s[:at], s + s[:at]} {
				if members, ok := ruleRead(changed); ok {
					wantRead(t, changed, members)
				} else {
					wantNoSet(t, changed)
				}
			}
		}
	}
}

// P5.3: Read of Bytes has the same members, and the same Bytes.
func TestReadOfBytes(t *testing.T) {
	for _, l := range lists() {
		wantRead(t, New(l...).Bytes(), l)
	}
}

// P5.3: two sets with the same members, made in unlike ways, have the same Bytes.
func TestSameBytes(t *testing.T) {
	draw := rand.New(rand.NewSource(3))
	for _, l := range lists() {
		want := New(l...).Bytes()
		falling := slices.Clone(l)
		slices.Reverse(falling)
		mixed := slices.Clone(l)
		draw.Shuffle(len(mixed), func(i, j int) { mixed[i], mixed[j] = mixed[j], mixed[i] })
		cut, end := New(l...), 0
		if len(l) > 0 {
			end = l[len(l)-1] + 1
		}
		for n := end; n < end+600; n++ {
			cut.Add(n)
		}
		cut.Cut(end)
		anew := New(run(0, 1000)...)
		anew.Cut(-1)
		for _, n := range mixed {
			anew.Add(n)
		}
		read, _ := Read(want)
		half := len(mixed) / 2
		for what, s := range map[string]*Set{
			"falling": New(falling...), "mixed": New(mixed...), "twice": New(slices.Concat(l, mixed)...), "cut": cut, "anew": anew, "read": read,
			"union": New(mixed[:half]...).Union(New(mixed[half:]...)), "union with itself": read.Union(read), "union with nil": read.Union(nil), "nil's union": (*Set)(nil).Union(read),
		} {
			wantSet(t, what, s, l)
			if got := s.Bytes(); got != want {
				t.Errorf("Bytes of %v, %s: %x, want %x", l, what, got, want)
			}
		}
	}
}

// R1: a nil set: false, 0, nothing, no bytes; its Union with o has o's members.
func TestNil(t *testing.T) {
	var s *Set
	wantSet(t, "nil", s, nil)
	for _, n := range edges() {
		wantAsked(t, s, nil, n)
		if s.Add(n) {
			t.Errorf("Add of %d to nil: true", n)
		}
		if got := s.Cut(n); got != 0 {
			t.Errorf("Cut from %d of nil: %d", n, got)
		}
	}
	s.Each(0)(nil)
	o := New(5, 300)
	u := s.Union(o)
	wantSet(t, "nil's Union", u, []int{5, 300})
	u.Add(6)
	u.Cut(300)
	wantSet(t, "o behind a change of the union", o, []int{5, 300})
	u = s.Union(nil)
	wantSet(t, "nil's Union with nil", u, nil)
	if u == nil || !u.Add(5) {
		t.Error("nil's Union with nil is no new set")
	}
	wantSet(t, "nil", s, nil)
}

// A zero set is New().
func TestZero(t *testing.T) {
	var s Set
	wantSet(t, "zero", &s, nil)
	for _, n := range edges() {
		wantAsked(t, &s, nil, n)
		if got := s.Cut(n); got != 0 {
			t.Errorf("Cut from %d of a zero set: %d", n, got)
		}
		var one Set
		if may := 0 <= n && n <= api.MaxBlock; one.Add(n) != may || one.Add(n) {
			t.Errorf("Add of %d to a zero set is wrong", n)
		}
		wantSet(t, "zero and one", &one, ruleNew(n))
	}
	wantSet(t, "its Union", s.Union(New(5)), []int{5})
	wantSet(t, "Union with it", New(5).Union(&s), []int{5})
	wantSet(t, "its Union with itself", s.Union(&s), nil)
	if u := s.Union(nil); !u.Add(5) || s.Has(5) {
		t.Error("its Union with nil is no new set")
	}
}

// P5.1, P5.3: calls in any order, held against the list behind each of them.
func TestAnyOrder(t *testing.T) {
	draw := rand.New(rand.NewSource(4))
	for _, most := range []int{40, 300, 1500, 100000, api.MaxBlock} {
		s, members := New(), []int{}
		for range 3000 {
			n := draw.Intn(most)
			at, is := slices.BinarySearch(members, n)
			switch draw.Intn(20) {
			case 0:
				if len(members) > 0 {
					n = members[len(members)*3/4+draw.Intn(len(members)-len(members)*3/4)] - draw.Intn(2)
				}
				keep := ruleCut(members, n)
				if got := s.Cut(n); got != len(members)-keep {
					t.Fatalf("Cut from %d: %d, want %d", n, got, len(members)-keep)
				}
				members = members[:keep]
			case 1:
				wantSet(t, "in any order", s, members)
				wantAsked(t, s, members, n)
				wantRead(t, s.Bytes(), members)
			case 2:
				other := []int{n, n / 2, n / 3}
				wantSet(t, "union in any order", s.Union(New(other...)), ruleNew(slices.Concat(members, other)...))
			default:
				if s.Add(n) == is {
					t.Fatalf("Add of %d: %v", n, !is)
				}
				if !is {
					members = slices.Insert(members, at, n)
				}
			}
		}
		wantSet(t, "in the end", s, members)
	}
}

// R5: sets of many containers and of many members; long bytes that are none.
func TestLong(t *testing.T) {
	var sparse []int
	for i := range 1 << 15 {
		sparse = append(sparse, i*65536)
	}
	dense := run(1000, 1000+1<<18)
	for _, l := range [][]int{sparse, dense} {
		s := New(l...)
		b := s.Bytes()
		if b != ruleBytes(l) {
			t.Error("Bytes of many are wrong")
		}
		r, e := Read(b)
		if e != api.OK || !slices.Equal(r.Members(), l) {
			t.Error("Read of many is wrong")
		}
		if _, e := Read(b + "\x00"); e != api.ErrForm {
			t.Error("Read of many, and a byte, is wrong")
		}
		mid := l[len(l)/2]
		if n, ok := s.Least(mid - 1); !ok || n > mid || n < mid-1 {
			t.Error("Least of many is wrong")
		}
		if s.Cut(mid) != len(l)-len(l)/2 || s.Len() != len(l)/2 {
			t.Error("Cut of many is wrong")
		}
	}
	for _, b := range []string{strings.Repeat("\x00", 1<<22), strings.Repeat("\xff", 1<<22), strings.Repeat("\x00\x00\x00\x00\x05", 1<<20)} {
		if s, e := Read(b); s != nil || e != api.ErrForm {
			t.Error("Read of long bytes is wrong")
		}
	}
}

// P1: Read ends at any bytes, and tells what the rules tell; so do the calls on what it has read.
func FuzzRead(f *testing.F) {
	for _, l := range lists() {
		f.Add(New(l...).Bytes(), 256)
	}
	f.Add("\x00\x00\x00\x01\x05\x05", -1)
	f.Add("\x80\x00\x00\x00\x05", math.MaxInt)
	f.Fuzz(func(t *testing.T, b string, n int) {
		members, ok := ruleRead(b)
		if !ok {
			wantNoSet(t, b)
			return
		}
		wantRead(t, b, members)
		s, _ := Read(b)
		wantAsked(t, s, members, n)
		s.Add(n)
		wantSet(t, "behind Add", s, ruleNew(append(members, n)...))
		s.Cut(n)
		wantSet(t, "behind Cut", s, members[:ruleCut(members, n)])
	})
}
