package node

import (
	"fmt"
	"math"
	"math/rand"
	"slices"
	"strings"
	"testing"

	"loess/api"
)

func x(n int) string { return strings.Repeat("x", n) }

// val is a leaf's cell with its Value, at is one whose value begins at a page, child is a branch's cell.
func val(key, value string) api.Cell { return api.Cell{Key: key, Value: value, Size: len(value)} }

func at(key string, page, size int) api.Cell { return api.Cell{Key: key, Page: page, Size: size} }

func child(key string, page int) api.Cell { return api.Cell{Key: key, Page: page} }

func leaf(cells ...api.Cell) api.Node { return api.Node{Leaf: true, Cells: cells} }

func branch(cells ...api.Cell) api.Node { return api.Node{Cells: cells} }

// same is whether two nodes are one and the same thing; nil and empty lists are (R1).
func same(a, b api.Node) bool { return a.Leaf == b.Leaf && slices.Equal(a.Cells, b.Cells) }

// short is a node for a fault's report.
func short(n api.Node) string {
	s := fmt.Sprintf("leaf %v, %d cells", n.Leaf, len(n.Cells))
	for i, c := range n.Cells {
		if i == 8 {
			return s + " .."
		}
		s += fmt.Sprintf(" (%.8q of %d, %.8q of %d, %d, %d)", c.Key, len(c.Key), c.Value, len(c.Value), c.Page, c.Size)
	}
	return s
}

func wantCheck(t *testing.T, n api.Node, want api.Errno) {
	t.Helper()
	if e := Check(n); e != want {
		t.Errorf("Check of %s: error %d, want %d", short(n), e, want)
	}
}

func wantSize(t *testing.T, n api.Node, want int) {
	t.Helper()
	if got := Size(n); got != want {
		t.Errorf("Size of %s: %d, want %d", short(n), got, want)
	}
	if got := Fits(n); got != (want <= 1013) {
		t.Errorf("Fits of %s, %d bytes: %v", short(n), want, got)
	}
}

func wantFind(t *testing.T, n api.Node, key string, want int, wantIs bool) {
	t.Helper()
	if got, is := Find(n, key); got != want || is != wantIs {
		t.Errorf("Find of %.20q in %s: %d %v, want %d %v", key, short(n), got, is, want, wantIs)
	}
}

func wantChild(t *testing.T, n api.Node, key string, want int) {
	t.Helper()
	if got := Child(n, key); got != want {
		t.Errorf("Child of %.20q in %s: %d, want %d", key, short(n), got, want)
	}
}

func wantNode(t *testing.T, what string, got, want api.Node) {
	t.Helper()
	if !same(got, want) {
		t.Errorf("%s: %s, want %s", what, short(got), short(want))
	}
}

func wantSplit(t *testing.T, n api.Node, want ...api.Node) {
	t.Helper()
	got := Split(n)
	if len(got) != len(want) {
		t.Errorf("Split of %s: %d nodes, want %d", short(n), len(got), len(want))
		return
	}
	for i := range want {
		wantNode(t, fmt.Sprintf("Split of %s, node %d", short(n), i), got[i], want[i])
	}
}

// wantBytes is also that Read of them is the node again, and of no other kind (P9.5).
func wantBytes(t *testing.T, n api.Node, want string) {
	t.Helper()
	s, e := Bytes(n)
	if s != want || e != api.OK {
		t.Errorf("Bytes of %s: %.60x error %d, want %.60x", short(n), s, e, want)
	}
	if len(want) != Size(n) {
		t.Errorf("Size of %s: %d, of %d bytes", short(n), Size(n), len(want))
	}
	wantRead(t, n.Leaf, want, n)
}

func wantNoBytes(t *testing.T, n api.Node, want api.Errno) {
	t.Helper()
	if s, e := Bytes(n); s != "" || e != want {
		t.Errorf("Bytes of %s: %.60x error %d, want none and error %d", short(n), s, e, want)
	}
}

func wantRead(t *testing.T, leaf bool, s string, want api.Node) {
	t.Helper()
	got, e := Read(leaf, s)
	if !same(got, want) || e != api.OK {
		t.Errorf("Read of %.60x: %s error %d, want %s", s, short(got), e, short(want))
	}
}

// wantNoRead is that beside an error there is no node, and no kind (R2).
func wantNoRead(t *testing.T, leaf bool, s string) {
	t.Helper()
	got, e := Read(leaf, s)
	if got.Leaf || len(got.Cells) != 0 || e != api.ErrForm {
		t.Errorf("Read of %.60x (leaf %v): %s error %d, want none and error %d", s, leaf, short(got), e, api.ErrForm)
	}
}

// wantReadByRule is what the chapter's rule says, of either kind.
func wantReadByRule(t *testing.T, s string) {
	t.Helper()
	for _, leaf := range []bool{true, false} {
		if n, e := ruleRead(leaf, s); e == api.OK {
			wantRead(t, leaf, s, n)
		} else {
			wantNoRead(t, leaf, s)
		}
	}
}

// drawnKey is a key of few letters, so that keys are often alike, beginnings of one another, or neighbours.
func drawnKey(draw *rand.Rand) string {
	letters := "\x00ab\xff"
	b := make([]byte, draw.Intn(4))
	if draw.Intn(8) == 0 {
		b = make([]byte, draw.Intn(129))
	}
	for i := range b {
		b[i] = letters[draw.Intn(len(letters))]
	}
	return string(b)
}

func drawnCell(draw *rand.Rand, leaf bool, key string) api.Cell {
	page := 1 + draw.Intn(math.MaxInt32)>>draw.Intn(31)
	switch {
	case !leaf:
		return child(key, page)
	case draw.Intn(3) == 0:
		return at(key, page, draw.Intn(60001))
	case draw.Intn(3) == 0:
		return val(key, x(draw.Intn(201)))
	}
	return val(key, string(byte(draw.Intn(256))))
}

// drawn is a node that may be, of about so many cells.
func drawn(draw *rand.Rand, leaf bool, cells int) api.Node {
	n := api.Node{Leaf: leaf}
	for range cells {
		n = rulePut(n, drawnCell(draw, leaf, drawnKey(draw)))
	}
	return n
}

// drawnThatFits is one with as many cells as a page has room for.
func drawnThatFits(draw *rand.Rand, leaf bool) api.Node {
	n := api.Node{Leaf: leaf}
	for range 120 {
		if m := rulePut(n, drawnCell(draw, leaf, drawnKey(draw))); ruleSize(leaf, m.Cells...) <= 1013 {
			n = m
		}
	}
	return n
}

// odd are nodes that may not be, or don't fit, of both kinds.
func odd() []api.Node {
	var all []api.Node
	for _, c := range [][]api.Cell{
		{{Value: "x"}}, {{Size: 1}}, {{Page: -1}}, {{Page: math.MinInt, Size: math.MinInt}}, {{Page: math.MaxInt, Size: math.MaxInt}},
		{{Key: x(129), Page: 1}}, {{Key: x(5000), Value: x(5000), Page: 7, Size: 9}}, {{Value: x(201), Size: 201}}, {{Value: x(70000), Size: 70000}},
		{{Key: "b"}, {Key: "a"}}, {{Key: "a", Page: 1}, {Key: "a", Page: 2}}, {{}, {}, {}},
		{{Key: "c", Page: 1}, {Key: "a", Page: 1}, {Key: "d", Page: 1}, {Key: "b", Page: 1}, {Key: "", Page: 1}},
		make([]api.Cell, 3000), make([]api.Cell, 65535), make([]api.Cell, 65536), make([]api.Cell, 65537),
	} {
		all = append(all, leaf(c...), branch(c...))
	}
	return all
}

// The chapter's examples.
func TestExamples(t *testing.T) {
	n := leaf(val("a", "1"), at("bb", 5, 300))
	wantBytes(t, n, "\x00\x02\x01\x61\x00\x01\x31\x02\x62\x62\x01\x00\x00\x00\x05\x00\x00\x01\x2c")
	wantFind(t, n, "b", 1, false)
	wantFind(t, n, "a", 0, true)
	b := branch(child("", 3), child("m", 4))
	wantChild(t, b, "a", 0)
	wantChild(t, b, "m", 1)
}

// P9.1: a leaf's cell at each edge of what may be.
func TestCheckLeaf(t *testing.T) {
	for _, c := range []api.Cell{
		{}, val("", "1"), val("k", ""), val(x(127), "v"), val(x(128), "v"), val(strings.Repeat("\x00", 128), "v"), val(strings.Repeat("\xff", 128), "v"),
		val("k", x(199)), val("k", x(200)), val(x(128), x(200)), val("k", strings.Repeat("\x00", 200)),
		at("k", 1, 0), at("k", 1, 1), at("k", 2, 200), at("k", 2, 201), at("k", 65536, 59999), at("k", 1, 60000),
		at("k", math.MaxInt32-1, 300), at("k", math.MaxInt32, 60000), at("", math.MaxInt32, 0), at(x(128), 5, 300),
	} {
		wantCheck(t, leaf(c), api.OK)
		if c.Key != "" {
			wantCheck(t, leaf(val("", ""), c), api.OK)
		}
	}
	for _, c := range []api.Cell{
		val(x(129), "v"), val(x(130), ""), val(x(256), "v"), val(x(256+128), "v"), val(x(70000), "v"), at(x(129), 5, 300),
		val("k", x(201)), val("k", x(202)), val("k", x(255)), val("k", x(256)), val("k", x(60000)), val("", x(201)),
		{Key: "k", Value: "v"}, {Key: "k", Value: "v", Size: 2}, {Key: "k", Value: "v", Size: -1}, {Key: "k", Size: 1}, {Key: "k", Size: -1}, {Key: "k", Size: 300},
		{Key: "k", Value: x(200), Size: 199}, {Key: "k", Value: x(200), Size: 201}, {Key: "k", Value: x(201), Size: 200}, {Key: "k", Value: "v", Size: 257},
		{Key: "k", Value: "v", Size: math.MaxInt}, {Key: "k", Size: math.MinInt},
		at("k", -1, 0), at("k", -1, 300), at("k", -5, 1), at("k", math.MinInt32, 300), at("k", math.MinInt, 0),
		at("k", math.MaxInt32+1, 300), at("k", math.MaxInt32+2, 0), at("k", 1<<32, 0), at("k", 1<<32+1, 300), at("k", math.MaxInt, 300),
		at("k", 1, -1), at("k", 1, math.MinInt32), at("k", 1, math.MinInt), at("k", 1, 60001), at("k", 1, 1<<32), at("k", 1, math.MaxInt),
		{Key: "k", Value: "v", Page: 5, Size: 1}, {Key: "k", Value: "v", Page: 5, Size: 300}, {Key: "k", Value: "v", Page: 5}, {Key: "k", Value: "\x00", Page: 5},
		{Key: "k", Value: "v", Page: -1, Size: 1},
	} {
		wantCheck(t, leaf(c), api.ErrArg)
		wantCheck(t, leaf(val("", ""), c, val("z", "")), api.ErrArg)
		wantCheck(t, leaf(val("", ""), val("a", ""), c), api.ErrArg)
		wantNoBytes(t, leaf(c), api.ErrArg)
	}
}

// P9.1: a branch's cell at each edge of what may be.
func TestCheckBranch(t *testing.T) {
	for _, c := range []api.Cell{
		child("", 1), child("k", 1), child("k", 2), child("k", 65536), child("k", math.MaxInt32-1), child("k", math.MaxInt32), child(x(127), 1), child(x(128), 1),
	} {
		wantCheck(t, branch(c), api.OK)
		wantCheck(t, branch(c, child("z", 7)), api.OK)
	}
	for _, c := range []api.Cell{
		{}, child("k", 0), child("k", -1), child("k", math.MinInt32), child("k", math.MinInt),
		child("k", math.MaxInt32+1), child("k", 1<<32), child("k", 1<<32+1), child("k", math.MaxInt),
		child(x(129), 1), child(x(256), 1), child(x(70000), 1),
		{Key: "k", Value: "v"}, val("k", "v"), {Key: "k", Value: "v", Page: 1}, {Key: "k", Value: "v", Page: 1, Size: 1}, {Key: "k", Value: "\x00", Page: 1},
		at("k", 1, 1), at("k", 1, -1), at("k", 1, 300), at("k", 1, 60000), at("k", 1, math.MaxInt), at("k", 1, math.MinInt),
	} {
		wantCheck(t, branch(c), api.ErrArg)
		wantCheck(t, branch(child("", 3), c, child("z", 4)), api.ErrArg)
		wantNoBytes(t, branch(c), api.ErrArg)
	}
}

// P9.1: keys that rise, byte by byte, and such that are alike or fall, anywhere in a node; no cells.
func TestCheckKeys(t *testing.T) {
	rising := []string{"", "\x00", "\x00\x00", "\x00a", "A", "a", "a\x00", "aa", "ab", "b", "\x7f", "\x80", "\xc3\xa4", "\xff", "\xff\x00", "\xff\xff"}
	of := func(leaf bool, keys ...string) api.Node {
		n := api.Node{Leaf: leaf}
		for _, k := range keys {
			n.Cells = append(n.Cells, child(k, 1))
		}
		return n
	}
	for _, kind := range []bool{true, false} {
		wantCheck(t, api.Node{Leaf: kind}, api.OK)
		wantCheck(t, api.Node{Leaf: kind, Cells: []api.Cell{}}, api.OK)
		wantCheck(t, of(kind, rising...), api.OK)
		for i, a := range rising {
			for j, b := range rising {
				want := api.ErrArg
				if i < j {
					want = api.OK
				}
				wantCheck(t, of(kind, a, b), want)
			}
			wantCheck(t, of(kind, slices.Insert(slices.Clone(rising), i, a)...), api.ErrArg)
			if i > 0 {
				wantCheck(t, of(kind, append(slices.Clone(rising[:i]), rising[i-1])...), api.ErrArg)
				fall := slices.Clone(rising)
				fall[i-1], fall[i] = fall[i], fall[i-1]
				wantCheck(t, of(kind, fall...), api.ErrArg)
			}
		}
	}
}

// P9.1: the bytes of each kind of cell.
func TestSize(t *testing.T) {
	for _, c := range []struct {
		n    api.Node
		want int
	}{
		{leaf(), 2}, {branch(), 2}, {api.Node{Leaf: true, Cells: []api.Cell{}}, 2},
		{leaf(val("", "")), 5}, {leaf(val("k", "")), 6}, {leaf(val("k", "v")), 7}, {leaf(val(x(128), x(200))), 333},
		{leaf(at("", 1, 0)), 12}, {leaf(at("k", 1, 60000)), 13}, {leaf(at(x(128), math.MaxInt32, 60000)), 140},
		{branch(child("", 1)), 7}, {branch(child("k", 1)), 8}, {branch(child(x(128), math.MaxInt32)), 135},
		{leaf(val("a", "1"), at("bb", 5, 300)), 19}, {leaf(val("a", "1"), val("b", "22"), val("c", "")), 2 + 5 + 6 + 4}, {branch(child("", 1), child("m", 2)), 13},
	} {
		wantSize(t, c.n, c.want)
	}
}

// P9.1: nodes about MaxBody, of all kinds of cells.
func TestFits(t *testing.T) {
	three := []api.Cell{val("a", x(200)), val("b", x(200)), val("c", x(200))} // 614 bytes
	four := append(slices.Clone(three), val("d", x(200)))                     // 818 bytes
	for more := range 100 {
		wantSize(t, leaf(append(four, val("e", x(more+100)))...), 922+more)
		wantSize(t, leaf(append(four, at(x(more+29), 1, 300))...), 857+more)
		wantSize(t, leaf(append(slices.Clone(three), val("d", x(more)), val("e", x(191)))...), 813+more)
	}
	var children []api.Cell
	for i := range 9 {
		children = append(children, child(fmt.Sprint(i)+x(99), i+1)) // 947 bytes
	}
	for more := range 100 {
		wantSize(t, branch(append(children, child("x"+x(more), 1))...), 953+more)
	}
	for _, n := range []int{1010, 1011, 1012, 1013, 1014, 1015, 1016} {
		exact := leaf(append(slices.Clone(four), val("e", x(n-822)))...)
		wantSize(t, exact, n)
		if n <= 1013 {
			wantBytes(t, exact, laid(true, 5, exact.Cells...))
		} else {
			wantNoBytes(t, exact, api.ErrSize)
		}
	}
	exact := branch(append(children, child(x(61), 1))...)
	wantSize(t, exact, 1013)
	wantBytes(t, exact, laid(false, 10, exact.Cells...))
	wantNoBytes(t, branch(append(children, child(x(62), 1))...), api.ErrSize)
}

// P9.1: nodes that may not be have a size too, by what their cells are.
func TestSizeOdd(t *testing.T) {
	wantSize(t, leaf(api.Cell{Key: x(300), Value: x(705)}), 1010)
	wantSize(t, leaf(api.Cell{Key: x(300), Value: x(708)}), 1013)
	wantSize(t, leaf(api.Cell{Key: x(300), Value: x(709)}), 1014)
	wantSize(t, leaf(api.Cell{Key: "k", Value: x(5000), Page: 5, Size: 5000}), 13)
	wantSize(t, branch(api.Cell{Key: "k", Value: x(5000), Page: 5, Size: 5000}), 8)
	wantSize(t, branch(api.Cell{Key: x(1006)}), 1013)
	wantSize(t, branch(api.Cell{Key: x(1007)}), 1014)
	wantSize(t, leaf(api.Cell{Key: x(1001), Page: 1}), 1013)
	wantSize(t, leaf(api.Cell{Key: x(1002), Page: 1}), 1014)
	wantSize(t, leaf(make([]api.Cell, 337)...), 1013)
	wantSize(t, leaf(make([]api.Cell, 338)...), 1016)
	wantSize(t, branch(make([]api.Cell, 202)...), 1012)
	wantSize(t, branch(make([]api.Cell, 203)...), 1017)
	for _, n := range odd() {
		wantSize(t, n, ruleSize(n.Leaf, n.Cells...))
	}
}

// P9.2: Find and Child of no cells, ahead of all, behind all, between, of each key; nodes of one cell up to many.
func TestFindChild(t *testing.T) {
	for _, key := range []string{"", "a", "\xff"} {
		wantFind(t, leaf(), key, 0, false)
		wantFind(t, branch(), key, 0, false)
		wantChild(t, leaf(), key, 0)
		wantChild(t, branch(), key, 0)
	}
	for count := 1; count <= 40; count++ {
		var n api.Node
		for i := range count {
			n.Cells = append(n.Cells, child(fmt.Sprintf("k%02d", i), i+1))
		}
		for _, ahead := range []string{"", "\x00", "j", "k", "k/", "k0"} {
			wantFind(t, n, ahead, 0, false)
			wantChild(t, n, ahead, 0)
		}
		for i, c := range n.Cells {
			wantFind(t, n, c.Key, i, true)
			wantChild(t, n, c.Key, i)
			for _, between := range []string{c.Key + "\x00", c.Key + "\xff"} {
				wantFind(t, n, between, i+1, false)
				wantChild(t, n, between, i)
			}
		}
		for _, behind := range []string{"k99", "l", "\xff", x(200)} {
			wantFind(t, n, behind, count, false)
			wantChild(t, n, behind, count-1)
		}
	}
}

// P9.2: a first key that is nothing, keys that are beginnings of one another, keys of bytes above 127.
func TestFindChildKeys(t *testing.T) {
	n := branch(child("", 1), child("\x00", 2), child("a", 3), child("a\x00", 4), child("aa", 5), child("\x80", 6), child("\xff", 7), child("\xff\xff", 8))
	for _, c := range []struct {
		key         string
		find, child int
		is          bool
	}{
		{"", 0, 0, true}, {"\x00", 1, 1, true}, {"\x00\x00", 2, 1, false}, {"A", 2, 1, false}, {"a", 2, 2, true}, {"a\x00", 3, 3, true}, {"a\x00\x00", 4, 3, false},
		{"aa", 4, 4, true}, {"ab", 5, 4, false}, {"\x7f", 5, 4, false}, {"\x80", 5, 5, true}, {"\xc3\xa4", 6, 5, false}, {"\xff", 6, 6, true}, {"\xff\x00", 7, 6, false},
		{"\xff\xff", 7, 7, true}, {"\xff\xff\x00", 8, 7, false},
	} {
		wantFind(t, n, c.key, c.find, c.is)
		wantChild(t, n, c.key, c.child)
		wantFind(t, api.Node{Leaf: true, Cells: n.Cells}, c.key, c.find, c.is)
		wantChild(t, api.Node{Leaf: true, Cells: n.Cells}, c.key, c.child)
	}
}

// P9.2: Put ahead, between, behind, in the place of one with its key, into no cells; the whole cell is the new one's.
func TestPut(t *testing.T) {
	b, d, f := val("b", "1"), at("d", 5, 300), val("f", "")
	n := leaf(b, d, f)
	for _, c := range []struct {
		key  string
		want func(c api.Cell) []api.Cell
	}{
		{"", func(c api.Cell) []api.Cell { return []api.Cell{c, b, d, f} }},
		{"a", func(c api.Cell) []api.Cell { return []api.Cell{c, b, d, f} }},
		{"b", func(c api.Cell) []api.Cell { return []api.Cell{c, d, f} }},
		{"b\x00", func(c api.Cell) []api.Cell { return []api.Cell{b, c, d, f} }},
		{"c", func(c api.Cell) []api.Cell { return []api.Cell{b, c, d, f} }},
		{"d", func(c api.Cell) []api.Cell { return []api.Cell{b, c, f} }},
		{"e", func(c api.Cell) []api.Cell { return []api.Cell{b, d, c, f} }},
		{"f", func(c api.Cell) []api.Cell { return []api.Cell{b, d, c} }},
		{"f\x00", func(c api.Cell) []api.Cell { return []api.Cell{b, d, f, c} }},
		{"\xff", func(c api.Cell) []api.Cell { return []api.Cell{b, d, f, c} }},
	} {
		for _, cell := range []api.Cell{val(c.key, "new"), val(c.key, ""), at(c.key, 9, 400), at(c.key, 5, 300)} {
			wantNode(t, fmt.Sprintf("Put of %q", c.key), Put(n, cell), leaf(c.want(cell)...))
		}
	}
	wantNode(t, "Put into none", Put(leaf(), b), leaf(b))
	wantNode(t, "Put into no branch", Put(branch(), child("", 4)), branch(child("", 4)))
	wantNode(t, "Put into a branch", Put(branch(child("", 4), child("m", 5)), child("c", 6)), branch(child("", 4), child("c", 6), child("m", 5)))
	wantNode(t, "Put in its place", Put(branch(child("", 4), child("m", 5)), child("", 6)), branch(child("", 6), child("m", 5)))
}

// P9.2: Drop of each place, below 0, behind the last, of no cells.
func TestDrop(t *testing.T) {
	b, d, f := val("b", "1"), at("d", 5, 300), val("f", "")
	n := leaf(b, d, f)
	wantNode(t, "Drop of the first", Drop(n, 0), leaf(d, f))
	wantNode(t, "Drop of the second", Drop(n, 1), leaf(b, f))
	wantNode(t, "Drop of the last", Drop(n, 2), leaf(b, d))
	wantNode(t, "Drop of the only one", Drop(branch(child("", 3)), 0), branch())
	wantNode(t, "Drop of a branch's", Drop(branch(child("", 3), child("m", 4)), 0), branch(child("m", 4)))
	for _, none := range []int{-1, -2, -3, -4, 3, 4, 5, 255, math.MinInt32, math.MinInt, math.MaxInt32, math.MaxInt - 1, math.MaxInt} {
		wantNode(t, fmt.Sprintf("Drop of %d", none), Drop(n, none), n)
		wantNode(t, fmt.Sprintf("Drop of %d in none", none), Drop(leaf(), none), leaf())
		wantNode(t, fmt.Sprintf("Drop of %d in no branch", none), Drop(branch(), none), branch())
	}
	wantNode(t, "Drop in none", Drop(leaf(), 0), leaf())
}

// P9.3: nodes that fit, and such of fewer than 2 cells, stay alone.
func TestSplitAlone(t *testing.T) {
	for _, n := range []api.Node{
		leaf(), branch(), leaf(val("a", "1")), leaf(val("a", "1"), at("bb", 5, 300)), branch(child("", 3), child("m", 4)),
		leaf(val("a", x(200)), val("b", x(200)), val("c", x(200)), val("d", x(200)), val("e", x(191))),
		leaf(api.Cell{Key: x(300), Value: x(708)}), leaf(api.Cell{Key: x(300), Value: x(709)}), leaf(api.Cell{Value: x(70000)}), leaf(at(x(5000), 1, 1)),
		branch(api.Cell{Key: x(1007), Page: 1}), leaf(make([]api.Cell, 337)...),
	} {
		wantSplit(t, n, n)
	}
}

// P9.3: about a half: the first part has at least half of all with its 2 bytes, and not a cell more than that needs.
func TestSplitHalf(t *testing.T) {
	// 2 + 204 + 204 + 204 + (4 + more) + (4 + last) bytes in all.
	for _, c := range []struct{ more, last, want int }{
		{0, 200, 0}, {191, 200, 0}, {192, 200, 3}, {200, 200, 3}, {200, 192, 3}, {200, 191, 0}, {200, 0, 0},
	} {
		n := leaf(val("a", x(200)), val("b", x(200)), val("c", x(200)), val("d", x(c.more)), val("e", x(c.last)))
		if c.want == 0 {
			wantSplit(t, n, n)
			continue
		}
		wantSplit(t, n, leaf(n.Cells[:c.want]...), leaf(n.Cells[c.want:]...))
	}
	// Two cells ahead have 2 + 402 + 104 bytes: 508; of 1015, 1016 and 1017 bytes half is 507.5, 508 and 508.5.
	for size, want := range map[int]int{1014: 2, 1015: 2, 1016: 2, 1017: 3, 1018: 3} {
		n := leaf(api.Cell{Key: "a", Value: x(398)}, val("b", x(100)), val("c", x(100)), api.Cell{Key: "d", Value: x(size - 508 - 104 - 4)})
		wantSize(t, n, size)
		wantSplit(t, n, leaf(n.Cells[:want]...), leaf(n.Cells[want:]...))
	}
	// The same of a branch: two cells ahead have 2 + 253 + 255 bytes.
	for size, want := range map[int]int{1018: 2, 1019: 2, 1020: 2, 1021: 3, 1022: 3} {
		n := branch(child("a"+x(247), 1), child("b"+x(249), 2), child("c", 3), child("d"+x(size-510-6-6), 4))
		wantSize(t, n, size)
		wantSplit(t, n, branch(n.Cells[:want]...), branch(n.Cells[want:]...))
	}
}

// P9.3: neither none nor all: a first cell that has more than half, and a last one without which there is no half.
func TestSplitEnds(t *testing.T) {
	great, small := api.Cell{Key: "k", Value: x(2000), Size: 2000}, val("l", "1")
	for count := 1; count < 20; count++ {
		cells := make([]api.Cell, count)
		for i := range cells {
			cells[i] = small
		}
		ahead, behind := leaf(append([]api.Cell{great}, cells...)...), leaf(append(slices.Clone(cells), great)...)
		wantSplit(t, ahead, leaf(great), leaf(cells...))
		wantSplit(t, behind, leaf(cells...), leaf(great))
	}
	wantSplit(t, leaf(great, great), leaf(great), leaf(great))
	wantSplit(t, branch(child(x(700), 1), child(x(700), 2)), branch(child(x(700), 1)), branch(child(x(700), 2)))
	wantSplit(t, leaf(great, small, great), leaf(great, small), leaf(great))
}

// P9.3: many cells alike, made by hand, far beyond a page.
func TestSplitMany(t *testing.T) {
	for _, count := range []int{338, 339, 1000, 1001, 65537} {
		n := leaf(make([]api.Cell, count)...)
		at := 0
		for 2*(2+3*at) < 2+3*count {
			at++
		}
		wantSplit(t, n, leaf(n.Cells[:at]...), leaf(n.Cells[at:]...))
	}
	for _, n := range odd() {
		wantSplit(t, n, ruleSplit(n)...)
	}
}

// P9.3: Join of both kinds, of one kind with the other, of none; nothing is asked of the order.
func TestJoin(t *testing.T) {
	a, b := leaf(val("a", "1"), at("b", 5, 300)), leaf(val("c", "3"))
	wantNode(t, "Join of leaves", Join(a, b), leaf(val("a", "1"), at("b", 5, 300), val("c", "3")))
	wantNode(t, "Join the other way round", Join(b, a), leaf(val("c", "3"), val("a", "1"), at("b", 5, 300)))
	c, d := branch(child("", 3)), branch(child("m", 4), child("p", 5))
	wantNode(t, "Join of branches", Join(c, d), branch(child("", 3), child("m", 4), child("p", 5)))
	wantNode(t, "Join of a leaf and a branch", Join(b, c), leaf(val("c", "3"), child("", 3)))
	wantNode(t, "Join of a branch and a leaf", Join(c, b), branch(child("", 3), val("c", "3")))
	wantNode(t, "Join with none", Join(a, leaf()), a)
	wantNode(t, "Join with no branch", Join(a, branch()), a)
	wantNode(t, "Join of none", Join(leaf(), b), b)
	wantNode(t, "Join of no branch", Join(branch(), b), branch(val("c", "3")))
	wantNode(t, "Join of none with none", Join(leaf(), leaf()), leaf())
	wantNode(t, "Join of no branch with none", Join(branch(), leaf()), branch())
	wantNode(t, "Join with itself", Join(b, b), leaf(val("c", "3"), val("c", "3")))
}

// P9.4: bytes written down by hand, of both kinds.
func TestBytes(t *testing.T) {
	for _, c := range []struct {
		n    api.Node
		want string
	}{
		{leaf(), "\x00\x00"}, {branch(), "\x00\x00"},
		{leaf(val("", "")), "\x00\x01" + "\x00\x00\x00"},
		{leaf(val("", "\x00\x01")), "\x00\x01" + "\x00\x00\x02\x00\x01"},
		{leaf(val(x(128), x(200))), "\x00\x01" + "\x80" + x(128) + "\x00\xc8" + x(200)},
		{leaf(at("", 1, 0)), "\x00\x01" + "\x00\x01\x00\x00\x00\x01\x00\x00\x00\x00"},
		{leaf(at("\xff", 0x01020304, 0xea60)), "\x00\x01" + "\x01\xff\x01\x01\x02\x03\x04\x00\x00\xea\x60"},
		{leaf(at("k", math.MaxInt32, 255)), "\x00\x01" + "\x01k\x01\x7f\xff\xff\xff\x00\x00\x00\xff"},
		{branch(child("", 1)), "\x00\x01" + "\x00\x00\x00\x00\x01"},
		{branch(child("", 0x01020304), child("m", math.MaxInt32)), "\x00\x02" + "\x00\x01\x02\x03\x04" + "\x01m\x7f\xff\xff\xff"},
		{branch(child(x(128), 256)), "\x00\x01" + "\x80" + x(128) + "\x00\x00\x01\x00"},
	} {
		wantBytes(t, c.n, c.want)
	}
}

// P9.4: as many cells as a page has room for: their keys are nothing and single bytes.
func TestBytesMany(t *testing.T) {
	n, m := leaf(val("", "")), branch(child("", 300))
	for i := range 252 {
		n.Cells = append(n.Cells, val(string([]byte{byte(i)}), ""))
	}
	for i := range 167 {
		m.Cells = append(m.Cells, child(string([]byte{byte(i)}), i+1))
	}
	wantSize(t, n, 1013)
	wantBytes(t, n, laid(true, 253, n.Cells...))
	wantNoBytes(t, Put(n, val("\xfc", "")), api.ErrSize)
	wantSize(t, m, 1009)
	wantBytes(t, m, laid(false, 168, m.Cells...))
	wantNoBytes(t, Put(m, child("\xfc", 1)), api.ErrSize)
}

// P9.4: what may not be tells ErrArg, also of what doesn't fit; what may be and doesn't fit ErrSize.
func TestBytesWrong(t *testing.T) {
	for _, n := range odd() {
		want, wantErr := ruleBytes(n)
		if s, e := Bytes(n); s != want || e != wantErr {
			t.Errorf("Bytes of %s: %.60x error %d, want error %d", short(n), s, e, wantErr)
		}
	}
	var many []api.Cell
	for i := range 70000 {
		many = append(many, val(fmt.Sprintf("%05d", i), "v"))
	}
	wantCheck(t, leaf(many...), api.OK)
	wantNoBytes(t, leaf(many...), api.ErrSize)
	wantNoBytes(t, leaf(many[:65536]...), api.ErrSize)
	wantNoBytes(t, leaf(append(many, val("0", ""))...), api.ErrArg)
	wantNoBytes(t, leaf(val("a", x(200)), val("b", x(200)), val("c", x(200)), val("d", x(200)), val("e", x(192))), api.ErrSize)
	wantNoBytes(t, leaf(val("a", x(200)), val("b", x(200)), val("c", x(200)), val("d", x(200)), val("a", x(192))), api.ErrArg)
	wantNoBytes(t, leaf(val("a", x(1100))), api.ErrArg)
}

// samples are nodes of both kinds that have bytes.
func samples() []api.Node {
	all := []api.Node{
		leaf(), branch(), leaf(val("", "")), leaf(val("a", "1"), at("bb", 5, 300)), branch(child("", 3), child("m", 4)),
		leaf(at("", math.MaxInt32, 60000), at("a", 1, 0), val("b", x(200)), val(x(128), "")), branch(child("\x00", 1), child("\x00\x00", 256), child(x(128), math.MaxInt32)),
		leaf(val("a", "\x00\x00"), val("b", "\x00\x01a\x00\x00"), val("c", "")),
	}
	draw := rand.New(rand.NewSource(91))
	for i := range 6 {
		all = append(all, drawnThatFits(draw, i%2 == 0))
	}
	return all
}

// P9.4, P9.5: Read of Bytes of both kinds is the node.
func TestReadOfBytes(t *testing.T) {
	for _, n := range samples() {
		wantBytes(t, n, laid(n.Leaf, len(n.Cells), n.Cells...))
	}
}

// P9.4: bytes cut short anywhere, at either end.
func TestReadCut(t *testing.T) {
	for _, n := range samples() {
		s := laid(n.Leaf, len(n.Cells), n.Cells...)
		for i := range len(s) {
			wantNoRead(t, n.Leaf, s[:i])
			wantReadByRule(t, s[:i])
			wantReadByRule(t, s[i:])
			wantReadByRule(t, s[:i]+s[i+1:])
		}
	}
}

// P9.4: bytes with anything behind: a byte, a cell, the same again, so much that no page has it.
func TestReadBehind(t *testing.T) {
	for _, n := range samples() {
		s := laid(n.Leaf, len(n.Cells), n.Cells...)
		for b := range 256 {
			wantNoRead(t, n.Leaf, s+string([]byte{byte(b)}))
		}
		for _, more := range []string{"\x00\x00", "\x00\x00\x00", "\x01z\x00\x00", "\x01z\x00\x00\x00\x01", s, x(1013), x(1 << 20)} {
			wantNoRead(t, n.Leaf, s+more)
			wantReadByRule(t, more+s)
		}
	}
}

// P9.4: bytes with any one byte turned: Read is the node whose bytes they are then, or none.
func TestReadTurned(t *testing.T) {
	for _, n := range samples() {
		s := laid(n.Leaf, len(n.Cells), n.Cells...)
		for i := range len(s) {
			for bits := 1; bits < 256; bits++ {
				if len(s) > 40 && bits != 1 && bits != 128 && bits != 255 {
					continue // of long ones some bits are enough
				}
				b := []byte(s)
				b[i] ^= byte(bits)
				wantReadByRule(t, string(b))
				if got, e := Read(n.Leaf, string(b)); e == api.OK && same(got, n) {
					t.Errorf("Read of %.60x and of it with byte %d turned: one node", s, i)
				}
			}
		}
	}
}

// P9.4: no bytes, one byte, a count of cells that aren't there, up to the greatest.
func TestReadNone(t *testing.T) {
	for _, kind := range []bool{true, false} {
		wantNoRead(t, kind, "")
		for b := range 256 {
			wantNoRead(t, kind, string([]byte{byte(b)}))
		}
		for count := 1; count < 65536; count++ {
			wantNoRead(t, kind, laid(kind, count))
		}
		for _, count := range []int{0, 1, 3, 258, 65535} {
			wantNoRead(t, kind, laid(kind, count, child("a", 1), child("b", 2)))
		}
		wantRead(t, kind, laid(kind, 2, child("a", 1), child("b", 2)), api.Node{Leaf: kind, Cells: []api.Cell{child("a", 1), child("b", 2)}})
		wantRead(t, kind, "\x00\x00", api.Node{Leaf: kind})
	}
}

// P9.4: numbers too great, and kinds of a leaf's cell that there are none of.
func TestReadNumbers(t *testing.T) {
	for _, page := range []int{0, 1 << 31, 1<<31 + 1, 1<<32 - 1} {
		wantNoRead(t, false, laid(false, 1, child("k", page)))
		wantNoRead(t, false, laid(false, 2, child("", 1), child("k", page)))
	}
	for _, page := range []int{1 << 31, 1<<31 + 1, 1<<32 - 1} {
		wantNoRead(t, true, laid(true, 1, at("k", page, 300)))
		wantNoRead(t, true, laid(true, 1, at("k", page, 0)))
	}
	for _, size := range []int{60001, 65536 + 300, 1 << 31, 1<<32 - 1} {
		wantNoRead(t, true, laid(true, 1, at("k", 5, size)))
		wantNoRead(t, true, laid(true, 2, at("k", 5, 300), at("l", 6, size)))
	}
	for _, key := range []int{129, 130, 200, 255} {
		wantNoRead(t, true, laid(true, 1, val(x(key), "v")))
		wantNoRead(t, true, laid(true, 1, at(x(key), 5, 300)))
		wantNoRead(t, false, laid(false, 1, child(x(key), 5)))
	}
	for _, value := range []int{201, 202, 254, 255} {
		wantNoRead(t, true, laid(true, 1, val("k", x(value))))
		wantNoRead(t, true, laid(true, 2, val("k", x(200)), val("l", x(value))))
	}
	wantNoRead(t, true, "\x00\x01\x01k\x01\x00\x00\x00\x00\x00\x00\x00\x00") // page 0: a Value of nothing is written otherwise
	wantNoRead(t, true, "\x00\x01\x01k\x01\x00\x00\x00\x00\x00\x00\x01\x2c")
	for kind := 2; kind < 256; kind++ {
		wantNoRead(t, true, "\x00\x01\x01k"+string([]byte{byte(kind)})+"\x00\x00\x00\x05\x00\x00\x01\x2c")
		wantNoRead(t, true, "\x00\x01\x01k"+string([]byte{byte(kind)})+"\x01v")
		wantNoRead(t, true, "\x00\x01\x01k"+string([]byte{byte(kind)})+"\x00")
	}
}

// P9.4: keys that don't rise: alike, or falling, at the beginning or behind others.
func TestReadKeys(t *testing.T) {
	for _, keys := range [][2]string{{"", ""}, {"a", "a"}, {"b", "a"}, {"a", ""}, {"aa", "a"}, {"\x80", "\x7f"}, {"\xff", "\x00"}, {x(128), x(128)}, {x(128), x(127)}} {
		wantNoRead(t, true, laid(true, 2, val(keys[0], "1"), val(keys[1], "2")))
		wantNoRead(t, true, laid(true, 2, at(keys[0], 1, 1), at(keys[1], 2, 2)))
		wantNoRead(t, false, laid(false, 2, child(keys[0], 1), child(keys[1], 2)))
	}
	wantNoRead(t, true, laid(true, 3, val("a", "1"), val("c", "2"), val("b", "3")))
	wantNoRead(t, false, laid(false, 4, child("", 1), child("a", 2), child("c", 3), child("c", 4)))
}

// P9.4: bytes that say right things, but more of them than fit.
func TestReadTooLong(t *testing.T) {
	cells := []api.Cell{val("a", x(200)), val("b", x(200)), val("c", x(200)), val("d", x(200))}
	for last := range 201 {
		n := leaf(append(slices.Clone(cells), val("e", x(last)))...)
		s := laid(true, 5, n.Cells...)
		if last <= 191 {
			wantRead(t, true, s, n)
		} else {
			wantNoRead(t, true, s)
		}
	}
	var many []api.Cell
	for i := range 65535 {
		many = append(many, child(fmt.Sprintf("%05d", i), i+1))
	}
	wantNoRead(t, false, laid(false, 65535, many...))
	wantNoRead(t, false, laid(false, 102, many[:102]...)) // 1022 bytes
	wantRead(t, false, laid(false, 101, many[:101]...), branch(many[:101]...))
}

// P9.4: of all short texts of some bytes Read is what the chapter's rule says.
func TestReadShort(t *testing.T) {
	letters := "\x00\x01\x02a"
	var all func(s string, more int)
	all = func(s string, more int) {
		wantReadByRule(t, s)
		for i := 0; i < len(letters) && more > 0; i++ {
			all(s+letters[i:i+1], more-1)
		}
	}
	all("", 5)
	for _, head := range []string{"\x00\x01", "\x00\x02", "\x00\x03"} {
		all(head, 7)
	}
}

// P9.2, P9.5: nodes made by Put and Drop in any order have the cells that a map has; what was put is found, what was dropped isn't.
func TestPutDropByRule(t *testing.T) {
	draw := rand.New(rand.NewSource(92))
	for round := range 40 {
		n := api.Node{Leaf: round%2 == 0}
		for range 200 {
			before := n
			key := drawnKey(draw)
			if draw.Intn(3) > 0 {
				c := drawnCell(draw, n.Leaf, key)
				n = Put(before, c)
				wantNode(t, fmt.Sprintf("Put of %q", key), n, rulePut(before, c))
				if i, ok := Find(n, key); !ok || n.Cells[i] != c {
					t.Errorf("%q was put and is not found", key)
				}
			} else if i, ok := Find(before, key); ok {
				n = Drop(before, i)
				wantNode(t, fmt.Sprintf("Drop of %q", key), n, ruleDrop(before, i))
				if _, ok := Find(n, key); ok {
					t.Errorf("%q was dropped and is found", key)
				}
			}
			wantCheck(t, n, api.OK)
			wantSize(t, n, ruleSize(n.Leaf, n.Cells...))
			for range 4 {
				key := drawnKey(draw)
				i, is := ruleFind(n, key)
				wantFind(t, n, key, i, is)
				wantChild(t, n, key, ruleChild(n, key))
			}
		}
	}
}

// P9.3, P9.5: of a node that fits with one cell more, Split's parts fit, have its cells in order, and are as the rule cuts them; Join is the node again.
func TestSplitByRule(t *testing.T) {
	draw := rand.New(rand.NewSource(93))
	cut := 0
	for round := range 400 {
		n := drawnThatFits(draw, round%2 == 0)
		key := drawnKey(draw)
		more := []api.Cell{drawnCell(draw, n.Leaf, key), child(x(128), 7)}
		if n.Leaf {
			more = append(more, val(x(128), x(200)), val("\x00"+x(127), x(200)), val("\xff"+x(127), x(200)))
		}
		for _, c := range more {
			m := Put(n, c)
			wantSplit(t, m, ruleSplit(m)...)
			parts := Split(m)
			if len(parts) == 1 {
				continue
			}
			cut++
			wantNode(t, "Join of Split", Join(parts[0], parts[1]), m)
			for _, p := range parts {
				if len(p.Cells) == 0 || !Fits(p) || Check(p) != api.OK {
					t.Errorf("Split of %s: %s, %d bytes", short(m), short(p), Size(p))
				}
				wantBytes(t, p, laid(p.Leaf, len(p.Cells), p.Cells...))
			}
		}
	}
	if cut < 500 {
		t.Errorf("only %d nodes were cut", cut)
	}
}

// P9.5: the greatest cells there are, one more than fit, wherever it is put.
func TestSplitGreatest(t *testing.T) {
	for _, size := range []int{0, 1, 100, 199, 200} {
		n := leaf()
		for i := 0; ; i += 2 {
			c := val(fmt.Sprintf("%03d", i)+x(125), x(size))
			if !Fits(Put(n, c)) {
				break
			}
			n = Put(n, c)
		}
		for i := range len(n.Cells) + 1 {
			m := Put(n, val(fmt.Sprintf("%03d", max(0, 2*i-1))+"y"+x(124), x(200)))
			wantSplit(t, m, ruleSplit(m)...)
			for _, p := range Split(m) {
				if !Fits(p) {
					t.Errorf("Split of %s: %d bytes", short(m), Size(p))
				}
			}
		}
	}
}

// P9.1 to P9.4: any nodes that may be, far too great ones among them.
func TestByRule(t *testing.T) {
	draw := rand.New(rand.NewSource(94))
	for round := range 600 {
		n := drawn(draw, round%2 == 0, draw.Intn(60))
		wantCheck(t, n, api.OK)
		wantSize(t, n, ruleSize(n.Leaf, n.Cells...))
		wantSplit(t, n, ruleSplit(n)...)
		if s, e := ruleBytes(n); e == api.OK {
			wantBytes(t, n, s)
		} else {
			wantNoBytes(t, n, e)
		}
		m := drawn(draw, draw.Intn(2) == 0, draw.Intn(10))
		wantNode(t, "Join", Join(n, m), api.Node{Leaf: n.Leaf, Cells: slices.Concat(n.Cells, m.Cells)})
	}
}

// spare is a node of these cells, whose memory goes on behind them: whatever is appended to its cells by mistake lands there, and is seen.
func spare(n api.Node) (api.Node, []api.Cell) {
	memory := slices.Concat(n.Cells, []api.Cell{val("behind", "1"), val("behind", "2"), val("behind", "3")})
	return api.Node{Leaf: n.Leaf, Cells: memory[:len(n.Cells)]}, memory
}

// others are all nodes that calls make of n, each with its name.
func others(n api.Node) ([]string, []api.Node) {
	var names []string
	var all []api.Node
	add := func(name string, l ...api.Node) {
		for _, m := range l {
			names, all = append(names, name), append(all, m)
		}
	}
	for _, key := range []string{"", "a", "b", "c", "d", "e", "\xff"} {
		add("Put of "+key, Put(n, child(key, 9)))
	}
	for i := -1; i <= len(n.Cells); i++ {
		add(fmt.Sprint("Drop of ", i), Drop(n, i))
	}
	add("Split", Split(n)...)
	add("Join", Join(n, api.Node{}), Join(api.Node{}, n), Join(n, n), Join(n, leaf(val("z", ""))))
	return names, all
}

// R3: what is handed in stays as it is; what is told is its owner's, and two nodes that are told share nothing.
func TestMemory(t *testing.T) {
	great := leaf()
	for _, key := range []string{"a", "b", "c", "d", "e", "f", "g"} {
		great.Cells = append(great.Cells, val(key, x(200)))
	}
	for _, n := range []api.Node{leaf(), branch(), branch(child("b", 1)), leaf(val("b", "1"), at("d", 5, 300)), branch(child("", 1), child("b", 2), child("d", 3)), great} {
		given, memory := spare(n)
		before := slices.Clone(memory)
		names, all := others(given)
		copies := make([]api.Node, len(all))
		for i := range all {
			copies[i] = api.Node{Leaf: all[i].Leaf, Cells: slices.Clone(all[i].Cells)}
		}
		for i := range all {
			_ = append(all[i].Cells, val("appended", ""))
			for j := range all[i].Cells {
				all[i].Cells[j] = val("changed", "")
			}
			for j := i + 1; j < len(all); j++ {
				wantNode(t, names[j]+" behind changes of "+names[i], all[j], copies[j])
			}
		}
		if !slices.Equal(memory, before) {
			t.Errorf("%s: not as it was handed in", short(n))
		}
		names, all = others(given)
		for i := range memory {
			memory[i] = val("changed", "")
		}
		for i := range all {
			wantNode(t, names[i]+" behind changes of what was handed in", all[i], copies[i])
		}
	}
}

// R3: also of the calls that tell no node.
func TestStays(t *testing.T) {
	for _, n := range append(samples(), odd()...) {
		given, memory := spare(n)
		before := slices.Clone(memory)
		Check(given)
		Size(given)
		Fits(given)
		Find(given, "b")
		Child(given, "b")
		Bytes(given)
		if !slices.Equal(memory, before) {
			t.Errorf("%s: not as it was handed in", short(n))
		}
	}
	s := laid(true, 2, val("a", "1"), at("bb", 5, 300))
	n, _ := Read(true, s)
	m, _ := Read(true, s)
	n.Cells[0], n.Cells[1] = val("x", ""), val("y", "")
	wantNode(t, "Read", m, leaf(val("a", "1"), at("bb", 5, 300)))
	wantRead(t, true, s, leaf(val("a", "1"), at("bb", 5, 300)))
}

// P1, R4: every call ends at nodes that may not be, and tells the same again.
func TestAnyNode(t *testing.T) {
	for _, n := range odd() {
		wantCheck(t, n, ruleCheckLong(n))
		for _, key := range []string{"", "a", "c", "\xff", x(70000)} {
			a, is := Find(n, key)
			b, again := Find(n, key)
			if a != b || is != again || a < 0 || a > len(n.Cells) {
				t.Errorf("Find of %.20q in %s: %d %v, then %d %v", key, short(n), a, is, b, again)
			}
			if c := Child(n, key); c != Child(n, key) || c < 0 || c >= len(n.Cells) {
				t.Errorf("Child of %.20q in %s: %d", key, short(n), c)
			}
			c := api.Cell{Key: key, Value: x(300), Page: -1, Size: -1}
			wantNode(t, "Put twice", Put(n, c), Put(n, c))
		}
		for _, i := range []int{math.MinInt, -1, 0, len(n.Cells) - 1, len(n.Cells), math.MaxInt} {
			wantNode(t, "Drop", Drop(n, i), ruleDrop(n, i))
		}
		wantNode(t, "Join", Join(n, n), api.Node{Leaf: n.Leaf, Cells: slices.Concat(n.Cells, n.Cells)})
	}
}

// ruleCheckLong is ruleCheck of nodes that are too long to ask all pairs of keys: none of those here may be.
func ruleCheckLong(n api.Node) api.Errno {
	if len(n.Cells) > 1000 {
		return api.ErrArg
	}
	return ruleCheck(n)
}

// P1: Read ends at any text.
func TestAnyText(t *testing.T) {
	draw := rand.New(rand.NewSource(95))
	for range 3000 {
		b := make([]byte, draw.Intn(60))
		for i := range b {
			b[i] = byte(draw.Intn(256) >> draw.Intn(9))
		}
		if len(b) > 1 && draw.Intn(2) == 0 {
			b[0], b[1] = 0, byte(draw.Intn(4))
		}
		wantReadByRule(t, string(b))
	}
	for _, s := range []string{strings.Repeat("\x00", 1013), strings.Repeat("\xff", 1013), strings.Repeat("\x01", 1013), strings.Repeat("\x00", 1<<20), strings.Repeat("\xff", 1<<20)} {
		wantReadByRule(t, s)
	}
}

// FuzzRead: what is read has these bytes, and the chapter's rule says the same.
func FuzzRead(f *testing.F) {
	for _, n := range samples() {
		f.Add(n.Leaf, laid(n.Leaf, len(n.Cells), n.Cells...))
	}
	f.Add(true, "")
	f.Add(true, "\x00\x01\x01k\x01\x00\x00\x00\x00\x00\x00\x00\x00")
	f.Fuzz(func(t *testing.T, leaf bool, s string) {
		wantReadByRule(t, s)
		if n, e := Read(leaf, s); e == api.OK {
			wantBytes(t, n, s)
		}
	})
}
