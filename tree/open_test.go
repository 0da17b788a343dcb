package tree

import (
	"fmt"
	"math"
	"strings"
	"testing"

	"loess/api"
	"loess/disk"
	"loess/page"
	"loess/pager"
)

// P11.1: Open of nothing, of a new store, and of one with pairs: all its pages are read once, and told to Use.
func TestOpen(t *testing.T) {
	x, e := Open(nil)
	want(t, "nil", fmt.Sprint(x == nil, int(e)), "true 1")

	x, p := opened(t, disk.New(2))
	want(t, "a new store", fmt.Sprint(x.Len(), x.Pages(), int(x.Check()), p.Reads()), "0 0 0 0")
	asked(t, "a new store", x, model{}, "", "a")

	old, _, d, m := some(t)
	for i := range 50 {
		drop(t, old, m, fmt.Sprintf("key%03d", i)+strings.Repeat("k", 90))
	}
	commit(t, old)
	ops := d.Ops()
	x, p = opened(t, d)
	want(t, "reads", p.Reads(), x.Pages())
	want(t, "operations (pager.Open has 3)", d.Ops()-ops, x.Pages()+3)
	want(t, "Pages", x.Pages(), old.Pages())
	want(t, "what is spare", p.Spare(), p.Meta().Pages-2-x.Pages())
	want(t, "something is spare", p.Spare() > 10, true)
	holds(t, "opened", x, m)
}

// P11.1: trees that no Tree wrote, but could have.
func TestOpenOfTrees(t *testing.T) {
	for _, c := range []struct {
		what  string
		meta  api.Meta
		pages map[int]string
		tells string
	}{
		{"nothing", api.Meta{Pages: 2}, nil, "0 pairs on 0 pages, Check 0"},
		{"nothing, with pages of others", api.Meta{Tx: 4, Pages: 5}, map[int]string{2: leaf("a"), 4: "x" + strings.Repeat("\x00", 1023)}, "0 pairs on 0 pages, Check 0"},
		{"a leaf", api.Meta{Root: 2, Entries: 2, Pages: 3}, map[int]string{2: leaf("a", "b")}, "2 pairs on 1 pages, Check 0"},
		{"the last page", api.Meta{Root: 9, Entries: 1, Pages: 10}, map[int]string{9: leaf("a")}, "1 pairs on 1 pages, Check 0"},
		{"a leaf without a pair", api.Meta{Root: 3, Pages: 4}, map[int]string{3: leaf()}, "0 pairs on 1 pages, Check 0"},
		{"a branch without a child", api.Meta{Root: 3, Pages: 4}, map[int]string{3: branch()}, "0 pairs on 1 pages, Check 0"},
		{"the key of no bytes", api.Meta{Root: 3, Entries: 1, Pages: 4}, map[int]string{3: leaf("")}, "1 pairs on 1 pages, Check 0"},
		{"a branch", api.Meta{Root: 4, Entries: 3, Pages: 5}, map[int]string{4: branch(to("", 2), to("m", 3)), 2: leaf("a", "l"), 3: leaf("m")}, "3 pairs on 3 pages, Check 0"},
		{"a branch with its least key", api.Meta{Root: 4, Entries: 3, Pages: 5}, map[int]string{4: branch(to("a", 2), to("m", 3)), 2: leaf("a", "l"), 3: leaf("n")}, "3 pairs on 3 pages, Check 0"},
		{"a branch with one child", api.Meta{Root: 3, Entries: 1, Pages: 5}, map[int]string{3: branch(to("", 2)), 2: leaf("a")}, "1 pairs on 2 pages, Check 0"},
		{"branches of branches", api.Meta{Root: 8, Entries: 4, Pages: 9}, map[int]string{
			8: branch(to("", 6), to("m", 7)), 6: branch(to("", 2), to("f", 3)), 7: branch(to("m", 4), to("t", 5)),
			2: leaf("a"), 3: leaf("f"), 4: leaf("o"), 5: leaf("z"),
		}, "4 pairs on 7 pages, Check 0"},
		{"a value of 1 part", api.Meta{Root: 2, Entries: 1, Pages: 4}, map[int]string{2: long(apart("a", 3, 201)), 3: piece(0, text(201, 1))}, "1 pairs on 2 pages, Check 0"},
		{"a value of 1 part that would have had room in the leaf", api.Meta{Root: 2, Entries: 1, Pages: 4}, map[int]string{2: long(apart("a", 3, 0)), 3: piece(0, "")}, "1 pairs on 2 pages, Check 0"},
		{"a value of 2 parts", api.Meta{Root: 2, Entries: 1, Pages: 6}, map[int]string{2: long(apart("a", 5, 1010)), 5: piece(3, text(1009, 1)), 3: piece(0, "x")}, "1 pairs on 3 pages, Check 0"},
		{"a value of 1 part, full", api.Meta{Root: 2, Entries: 1, Pages: 6}, map[int]string{2: long(apart("a", 5, 1009)), 5: piece(0, text(1009, 1))}, "1 pairs on 2 pages, Check 0"},
	} {
		want(t, c.what, tried(t, laid(10, c.meta, c.pages)), c.tells)
	}
}

// P11.1: pages that are no tree.
func TestOpenOfNoTree(t *testing.T) {
	meta := func(root, entries int) api.Meta { return api.Meta{Tx: 2, Root: root, Entries: entries, Pages: 9} }
	metaPage, _ := page.Meta(api.Meta{Tx: 1, Root: 1, Pages: 9})
	junk := "x" + strings.Repeat("\x00", 1023)
	turned := leaf("a")[:500] + "x" + leaf("a")[501:]
	two := map[int]string{4: branch(to("", 2), to("m", 3)), 2: leaf("a", "l"), 3: leaf("m")}
	for _, c := range []struct {
		what  string
		meta  api.Meta
		pages map[int]string
	}{
		{"no root, one pair", meta(0, 1), nil},
		{"one pair more", meta(2, 2), map[int]string{2: leaf("a")}},
		{"one pair less", meta(2, 0), map[int]string{2: leaf("a")}},
		{"one pair more, two leaves", meta(4, 4), two},
		{"one pair less, two leaves", meta(4, 2), two},
		{"one pair in an empty leaf", meta(2, 1), map[int]string{2: leaf()}},
		{"one pair in an empty branch", meta(2, 1), map[int]string{2: branch()}},
		{"very many pairs", meta(2, math.MaxInt), map[int]string{2: leaf("a")}},

		{"a root that was never written", meta(2, 0), nil},
		{"a root of zeros, one pair", meta(2, 1), nil},
		{"a root of junk", meta(2, 1), map[int]string{2: junk}},
		{"a root with a byte turned", meta(2, 1), map[int]string{2: turned}},
		{"a meta as the root", meta(0, 1), nil},
		{"the other meta as the root", meta(1, 1), map[int]string{1: metaPage}},
		{"a leaf in a meta's place", meta(1, 1), map[int]string{1: leaf("a")}},
		{"a part as the root", meta(2, 1), map[int]string{2: piece(0, "a")}},
		{"a page of another kind as the root", meta(2, 1), map[int]string{2: sealed('N', "\x00\x01\x01a\x00\x00")}},
		{"a page of another kind with a branch's bytes", meta(2, 0), map[int]string{2: sealed('N', "\x00\x00")}},
		{"a page of another kind below a branch", meta(2, 1), map[int]string{2: branch(to("", 3)), 3: sealed('N', "\x00\x01\x00\x00\x00\x00\x04"), 4: leaf("a")}},
		{"a part of another kind", meta(2, 1), map[int]string{2: long(apart("a", 3, 300)), 3: sealed('N', "\x00\x00\x00\x00"+text(300, 1))}},
		{"a leaf's bytes that are none", meta(2, 1), map[int]string{2: sealed('L', "\x00\x01\x01a\x00")}},
		{"a leaf with a byte more", meta(2, 1), map[int]string{2: sealed('L', "\x00\x01\x01a\x00\x00x")}},
		{"a leaf of nothing", meta(2, 0), map[int]string{2: sealed('L', "")}},
		{"a leaf that says it is a branch", meta(2, 1), map[int]string{2: sealed('B', "\x00\x01\x01a\x00\x00")}},
		{"a leaf with keys that fall", meta(2, 2), map[int]string{2: sealed('L', "\x00\x02\x01b\x00\x00\x01a\x00\x00")}},
		{"a leaf with a key twice", meta(2, 2), map[int]string{2: sealed('L', "\x00\x02\x01a\x00\x00\x01a\x00\x00")}},
		{"a root beyond the pages", meta(9, 1), map[int]string{9: leaf("a")}},
		{"a root beyond the device", api.Meta{Tx: 2, Root: 10, Entries: 1, Pages: 20}, nil},
		{"a root far beyond the device", api.Meta{Tx: 2, Root: math.MaxInt - 1, Entries: 1, Pages: math.MaxInt}, nil},

		{"a child that was never written", meta(2, 1), map[int]string{2: branch(to("", 3), to("m", 4)), 3: leaf("a")}},
		{"a child of junk", meta(2, 1), map[int]string{2: branch(to("", 3), to("m", 4)), 3: leaf("a"), 4: junk}},
		{"a part as a child", meta(2, 1), map[int]string{2: branch(to("", 3), to("m", 4)), 3: leaf("a"), 4: piece(0, "a")}},
		{"a meta as a child", meta(2, 1), map[int]string{2: branch(to("", 3), to("m", 1)), 3: leaf("a"), 1: metaPage}},
		{"a child beyond the pages", meta(2, 2), map[int]string{2: branch(to("", 3), to("m", 9)), 3: leaf("a"), 9: leaf("m")}},
		{"a child beyond the device", api.Meta{Tx: 2, Root: 2, Entries: 2, Pages: 20}, map[int]string{2: branch(to("", 3), to("m", 10)), 3: leaf("a")}},

		{"a leaf used twice", meta(4, 2), map[int]string{4: branch(to("", 2), to("m", 2)), 2: leaf("a")}},
		{"a leaf used twice, of no order to be seen", meta(4, 2), map[int]string{4: branch(to("", 2), to("\x00", 2)), 2: leaf("")}},
		{"a root that is its own child", meta(4, 1), map[int]string{4: branch(to("", 4))}},
		{"a root below its child", meta(4, 1), map[int]string{4: branch(to("", 3)), 3: branch(to("", 4))}},
		{"a leaf as its own value's part", meta(2, 1), map[int]string{2: long(apart("a", 2, 300))}},
		{"a part of two values", meta(2, 2), map[int]string{2: long(apart("a", 3, 300), apart("b", 3, 300)), 3: piece(0, text(300, 1))}},
		{"parts that meet", meta(2, 2), map[int]string{2: long(apart("a", 3, 1300), apart("b", 4, 1300)), 3: piece(5, text(1009, 1)), 4: piece(5, text(1009, 2)), 5: piece(0, text(291, 1))}},
		{"parts in a circle", meta(2, 1), map[int]string{2: long(apart("a", 3, 3000)), 3: piece(4, text(1009, 1)), 4: piece(3, text(1009, 2))}},
		{"parts in a circle that ends in time", meta(2, 1), map[int]string{2: long(apart("a", 3, 60000)), 3: piece(3, text(1009, 1))}},

		{"a key below those that its leaf is asked for", meta(4, 2), map[int]string{4: branch(to("", 2), to("m", 3)), 2: leaf("a"), 3: leaf("l")}},
		{"a key below that of the first child", meta(4, 2), map[int]string{4: branch(to("b", 2), to("m", 3)), 2: leaf("a"), 3: leaf("m")}},
		{"a key that the next leaf is asked for", meta(4, 3), map[int]string{4: branch(to("", 2), to("m", 3)), 2: leaf("a", "m"), 3: leaf("n")}},
		{"a key behind the next leaf's", meta(4, 3), map[int]string{4: branch(to("", 2), to("m", 3)), 2: leaf("a", "z"), 3: leaf("n")}},
		{"leaves that have changed places", meta(4, 2), map[int]string{4: branch(to("", 3), to("m", 2)), 2: leaf("a"), 3: leaf("m")}},
		{"a key beyond those of the branch above", meta(8, 4), map[int]string{
			8: branch(to("", 6), to("m", 7)), 6: branch(to("", 2), to("f", 3)), 7: branch(to("m", 4), to("t", 5)),
			2: leaf("a"), 3: leaf("n"), 4: leaf("o"), 5: leaf("z"),
		}},
		{"a branch with a key beyond its own", meta(8, 4), map[int]string{
			8: branch(to("", 6), to("m", 7)), 6: branch(to("", 2), to("n", 3)), 7: branch(to("m", 4), to("t", 5)),
			2: leaf("a"), 3: leaf("n"), 4: leaf("o"), 5: leaf("z"),
		}},
		{"a branch with a key below its own", meta(8, 4), map[int]string{
			8: branch(to("", 6), to("m", 7)), 6: branch(to("", 2), to("f", 3)), 7: branch(to("l", 4), to("t", 5)),
			2: leaf("a"), 3: leaf("f"), 4: leaf("o"), 5: leaf("z"),
		}},
		{"branches with keys that fall", meta(2, 2), map[int]string{2: sealed('B', "\x00\x02\x01m\x00\x00\x00\x03\x01a\x00\x00\x00\x04"), 3: leaf("n"), 4: leaf("a")}},

		{"an empty leaf below a branch", meta(4, 1), map[int]string{4: branch(to("", 2), to("m", 3)), 2: leaf("a"), 3: leaf()}},
		{"an empty leaf as the only child", meta(4, 0), map[int]string{4: branch(to("", 2)), 2: leaf()}},
		{"an empty branch below a branch", meta(4, 1), map[int]string{4: branch(to("", 2), to("m", 3)), 2: leaf("a"), 3: branch()}},
		{"an empty branch as the only child", meta(4, 0), map[int]string{4: branch(to("", 2)), 2: branch()}},
		{"a leaf less deep than the one ahead", meta(5, 2), map[int]string{5: branch(to("", 4), to("m", 3)), 4: branch(to("", 2)), 2: leaf("a"), 3: leaf("m")}},
		{"a leaf deeper than the one ahead", meta(5, 2), map[int]string{5: branch(to("", 2), to("m", 4)), 4: branch(to("m", 3)), 2: leaf("a"), 3: leaf("m")}},

		{"a part that was never written", meta(2, 1), map[int]string{2: long(apart("a", 3, 300))}},
		{"a part that is a leaf", meta(2, 1), map[int]string{2: long(apart("a", 3, 300)), 3: leaf("a")}},
		{"a part beyond the pages", meta(2, 1), map[int]string{2: long(apart("a", 9, 300)), 9: piece(0, text(300, 1))}},
		{"a part beyond the device", api.Meta{Tx: 2, Root: 2, Entries: 1, Pages: 20}, map[int]string{2: long(apart("a", 10, 300))}},
		{"a meta as a part", meta(2, 1), map[int]string{2: long(apart("a", 1, 300)), 1: metaPage}},
		{"a part in a meta's place", meta(2, 1), map[int]string{2: long(apart("a", 1, 300)), 1: piece(0, text(300, 1))}},
		{"a part with a byte too few", meta(2, 1), map[int]string{2: long(apart("a", 3, 300)), 3: piece(0, text(299, 1))}},
		{"a part with a byte too many", meta(2, 1), map[int]string{2: long(apart("a", 3, 300)), 3: piece(0, text(301, 1))}},
		{"a part of fewer bytes than a page's number has", meta(2, 1), map[int]string{2: long(apart("a", 3, 0)), 3: sealed('V', "\x00\x00\x00")}},
		{"a part of no bytes ahead of another", meta(2, 1), map[int]string{2: long(apart("a", 3, 300)), 3: piece(4, ""), 4: piece(0, text(300, 1))}},
		{"a part that is not full ahead of another", meta(2, 1), map[int]string{2: long(apart("a", 3, 1300)), 3: piece(4, text(1000, 1)), 4: piece(0, text(300, 1))}},
		{"a last part with one behind", meta(2, 1), map[int]string{2: long(apart("a", 3, 300)), 3: piece(4, text(300, 1)), 4: piece(0, "")}},
		{"a part too few", meta(2, 1), map[int]string{2: long(apart("a", 3, 1300)), 3: piece(0, text(1009, 1))}},
		{"a next part beyond the device", meta(2, 1), map[int]string{2: long(apart("a", 3, 1300)), 3: piece(math.MaxInt32, text(1009, 1))}},
		{"a next part beyond all numbers of pages", meta(2, 1), map[int]string{2: long(apart("a", 3, 1300)), 3: piece(math.MaxUint32, text(1009, 1))}},
	} {
		d := laid(10, c.meta, c.pages)
		want(t, c.what, tried(t, d), "error 17")
	}
}

// P11.1: trees whose pages have all been read, but for one each of whose ways to be wrong is a single byte.
func TestOpenOfTurnedBytes(t *testing.T) {
	_, p, d, _ := some(t)
	for n := 2; n < p.Meta().Pages; n += 7 {
		for _, at := range []int{0, 2, 5, 20, 1023} {
			c := d.Copy()
			s, _ := c.Read(n)
			c.Write(n, s[:at]+string([]byte{s[at] ^ 1})+s[at+1:])
			want(t, fmt.Sprintf("page %d, byte %d", n, at), tried(t, c), "error 17")
		}
	}
}

// P11.1: each operation failing: the error is told; nothing was told to Use, so that the same pager may be tried once more.
func TestOpenFails(t *testing.T) {
	old, _, d, m := some(t)
	for op := range old.Pages() {
		for _, c := range []struct {
			fault func(d *disk.Disk)
			tells api.Errno
		}{
			{func(d *disk.Disk) { d.Fail(op + 1) }, api.ErrDisk},
			{func(d *disk.Disk) { d.Arm(op) }, api.ErrPower},
		} {
			what := fmt.Sprintf("operation %d, error %d", op, c.tells)
			d := d.Copy()
			p, _ := pager.Open(d)
			ops := d.Ops()
			c.fault(d)
			x, e := Open(p)
			want(t, what, fmt.Sprint(x == nil, int(e)), fmt.Sprint("true ", int(c.tells)))
			want(t, what+", operations", d.Ops()-ops, op)
			want(t, what+", what is spare", p.Spare(), 0)
			d.Crash()
			x, e = Open(p)
			if e != api.OK {
				t.Fatalf("%s: opened anew: error %d", what, e)
			}
			want(t, what+", what is spare then", p.Spare(), p.Meta().Pages-2-x.Pages())
			if op%20 == 0 {
				holds(t, what, x, m)
			}
		}
	}
}

// P1: a tree may be as deep as the device has pages.
func TestOpenOfDeepTree(t *testing.T) {
	const deep = 3000
	pages := map[int]string{2: leaf("a", "m")}
	for n := 3; n < 2+deep; n++ {
		pages[n] = branch(to("", n-1))
	}
	d := laid(deep+10, api.Meta{Root: 1 + deep, Entries: 2, Pages: 2 + deep}, pages)
	x, _ := opened(t, d)
	m := model{"a": "a", "m": "m"}
	holds(t, "deep", x, m)
	want(t, "Pages", x.Pages(), deep)
	want(t, "Put without room", x.Put("b", "b"), api.ErrFull)
	want(t, "Delete without room", deleted(x.Delete("a")), "error 16")
	holds(t, "without room", x, m)
	d.Limit(2*deep + 10)
	put(t, x, m, "b", "b")
	commit(t, x)
	holds(t, "with room", x, m)
	for _, k := range m.keys() {
		drop(t, x, m, k)
	}
	want(t, "Pages in the end", x.Pages(), 0)
	holds(t, "nothing", x, m)
	put(t, x, m, "new", "1")
	holds(t, "something anew", x, m)
	commit(t, x)
	x, _ = opened(t, d)
	holds(t, "opened anew", x, m)
}
