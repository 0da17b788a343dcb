package tree

import (
	"fmt"
	"slices"
	"strings"
	"testing"

	"loess/api"
	"loess/disk"
	"loess/node"
	"loess/pager"
)

// The chapter's examples.
func TestExamples(t *testing.T) {
	x, _ := opened(t, disk.New(10))
	want(t, "Put", x.Put("b", "2"), api.OK)
	want(t, "Put", x.Put("a", "1"), api.OK)
	want(t, "Seek", pair(x.Seek("aa")), `"b" "2"`)
	want(t, "Before", pair(x.Before("b")), `"a" "1"`)
	want(t, "Len", x.Len(), 2)

	want(t, "Commit", x.Commit(), api.OK)
	want(t, "Delete", deleted(x.Delete("a")), "true")
	x.Rollback()
	want(t, "Get", got(x.Get("a")), `"1"`)

	want(t, "Put of a key of 129 bytes", x.Put(strings.Repeat("k", 129), ""), api.ErrSize)
}

// probes is keys ahead of all, behind all, between and of each key.
func probes(m model) []string {
	l := []string{"", "\x00", "\xff", strings.Repeat("\xff", 128), strings.Repeat("\xff", 1000), strings.Repeat("\x00", 1000)}
	for k := range m {
		l = append(l, k, k+"\x00", k+"\xff", k[:len(k)-min(len(k), 1)], k[:len(k)/2], strings.Repeat(k, 3))
	}
	slices.Sort(l)
	return slices.Compact(l)
}

// P11.2: Get, Seek, Before, Last and Len, of no pairs, of few and of many, with changes, behind a commit and opened anew.
func TestAsked(t *testing.T) {
	for _, c := range []struct {
		what  string
		pairs model
	}{
		{"no pair", model{}},
		{"the key of no bytes", model{"": "nothing"}},
		{"one pair", model{"a": "1"}},
		{"a pair without a value", model{"a": ""}},
		{"keys that begin alike", model{"": "0", "\x00": "1", "\x00\x00": "2", "a": "3", "a\x00": "4", "aa": "5", "ab": "6", "b": "7"}},
		{"bytes above all signs", model{"\x7f": "1", "\x80": "2", "\xff": "3", "\xff\xff": "4"}},
		{"a great value", model{"a": "1", "b": text(5000, 1), "c": "3"}},
		{"the longest keys", model{strings.Repeat("a", 128): "1", strings.Repeat("a", 127) + "b": text(201, 1), strings.Repeat("\xff", 128): "3"}},
	} {
		d := disk.New(50)
		x, _ := opened(t, d)
		for k, v := range c.pairs {
			want(t, c.what+", Put", x.Put(k, v), api.OK)
		}
		asked(t, c.what+", with changes", x, c.pairs, probes(c.pairs)...)
		commit(t, x)
		asked(t, c.what+", committed", x, c.pairs, probes(c.pairs)...)
		x, _ = opened(t, d)
		asked(t, c.what+", opened anew", x, c.pairs, probes(c.pairs)...)
		holds(t, c.what, x, c.pairs)
	}
	x, _, _, m := some(t)
	l := probes(m)
	asked(t, "many, committed", x, m, l...)
	for i, k := range m.keys() {
		switch i % 4 {
		case 0:
			drop(t, x, m, k)
		case 1:
			put(t, x, m, k, text(i*3, i+5))
		case 2:
			put(t, x, m, k[:6]+"new", text(i, i+6))
		}
	}
	asked(t, "many, with changes", x, m, l...)
	commit(t, x)
	asked(t, "many, committed once more", x, m, l...)
}

// P11.2: asking changes nothing, and reads no page but those of the way down, and of the value.
func TestAskedReads(t *testing.T) {
	x, p, d, m := some(t)
	used, ops := p.Reads(), d.Ops()
	reads := func(what string, most int) {
		t.Helper()
		want(t, fmt.Sprintf("%s: at most %d reads, not %d", what, most, p.Reads()-used), p.Reads()-used <= most, true)
		used = p.Reads()
	}
	for _, k := range m.keys() {
		parts := parts(model{k: m[k]})
		x.Get(k)
		reads("Get", 3+parts)
		x.Seek(k)
		reads("Seek", 3+parts)
		x.Before(k + "\x00")
		reads("Before", 3+parts)
		x.Seek(k + "\x00")
		reads("Seek of the next", 5+3)
		x.Before(k)
		reads("Before of the one ahead", 5+3)
	}
	x.Last()
	reads("Last", 3)
	x.Len()
	x.Pages()
	reads("Len and Pages", 0)
	want(t, "operations", d.Ops()-ops, used)
	want(t, "no change", fmt.Sprint(x.Commit(), d.Ops()-ops, p.Meta().Tx), fmt.Sprint(api.OK, used, 1))
}

// P11.2 and P11.5: each operation of a call that asks failing: the error is told, beside nothing; the tree is as it was.
func TestAskedFails(t *testing.T) {
	x, _, d, m := some(t)
	drop(t, x, m, m.keys()[50])
	put(t, x, m, "new", text(2000, 1))
	keys := m.keys()
	calls := map[string]func() string{
		"Get of one":         func() string { return got(x.Get(keys[5])) },
		"Get of a great one": func() string { return got(x.Get("key123long")) },
		"Get of a new one":   func() string { return got(x.Get("new")) },
		"Get of none":        func() string { return got(x.Get("key1")) },
		"Seek":               func() string { return pair(x.Seek("key080")) },
		"Seek of a great":    func() string { return pair(x.Seek("key123l")) },
		"Before":             func() string { return pair(x.Before("key080")) },
		"Before of a great":  func() string { return pair(x.Before("key123long\x00")) },
		"Last":               func() string { return pair(x.Last()) },
		"Check": func() string {
			if e := x.Check(); e != api.OK {
				return fmt.Sprintf("error %d", e)
			}
			return "OK"
		},
	}
	for i, k := range keys {
		calls["Seek behind "+k] = func() string { return pair(x.Seek(keys[i] + "\x00")) }
		calls["Before "+k] = func() string { return pair(x.Before(keys[i])) }
	}
	for what, call := range calls {
		ops := d.Ops()
		right := call()
		ops = d.Ops() - ops
		for op := range ops {
			d.Fail(op + 1)
			want(t, fmt.Sprintf("%s, operation %d failing", what, op), call(), "error 14")
			d.Clear()
		}
		want(t, what+", with no fault any more", call(), right)
		for op := range ops {
			d.Arm(op)
			want(t, fmt.Sprintf("%s, the power gone at operation %d", what, op), call(), "error 15")
			// A crash with all that was written: nothing was.
			d.Crash()
		}
	}
	holds(t, "in the end", x, m)
}

// P11.3: how long keys and values may be; what is too long changes nothing.
func TestSizes(t *testing.T) {
	d := disk.New(1000)
	x, _ := opened(t, d)
	m := model{}
	put(t, x, m, "a", "1")
	for _, size := range []int{129, 130, 255, 256, 1000, 70000} {
		want(t, fmt.Sprintf("a key of %d bytes", size), x.Put(text(size, 1), "v"), api.ErrSize)
		want(t, fmt.Sprintf("a key of %d bytes, and too great a value", size), x.Put(text(size, 1), text(60001, 2)), api.ErrSize)
		want(t, fmt.Sprintf("Delete of a key of %d bytes", size), deleted(x.Delete(text(size, 1))), "false")
		want(t, fmt.Sprintf("Get of a key of %d bytes", size), got(x.Get(text(size, 1))), "none")
	}
	for _, size := range []int{60001, 60002, 65536, 100000} {
		want(t, fmt.Sprintf("a value of %d bytes", size), x.Put("a", text(size, 1)), api.ErrSize)
		want(t, fmt.Sprintf("a value of %d bytes, new", size), x.Put("b", text(size, 1)), api.ErrSize)
	}
	holds(t, "nothing has changed", x, m)
	for size := range 129 {
		put(t, x, m, text(size, 3), fmt.Sprint(size))
	}
	holds(t, "keys of all lengths", x, m)
	commit(t, x)
	x, _ = opened(t, d)
	holds(t, "keys of all lengths, opened anew", x, m)
}

// P11.3 and P11.5: values of the lengths where something changes, and how many pages they take, with the leaf.
func TestValues(t *testing.T) {
	for _, c := range []struct{ size, pages int }{
		{0, 1}, {1, 1}, {199, 1}, {200, 1}, {201, 2}, {202, 2}, {1008, 2}, {1009, 2}, {1010, 3}, {2018, 3}, {2019, 4}, {3000, 4}, {59999, 61}, {60000, 61},
	} {
		what := fmt.Sprintf("a value of %d bytes", c.size)
		d := disk.New(130)
		x, p := opened(t, d)
		m := model{}
		put(t, x, m, "k", text(c.size, 1))
		want(t, what+", Pages", x.Pages(), c.pages)
		holds(t, what, x, m)
		commit(t, x)
		want(t, what+", Pages ever used", p.Meta().Pages, 2+c.pages)
		x, p = opened(t, d)
		holds(t, what+", opened anew", x, m)
		want(t, what+", Pages", x.Pages(), c.pages)
		for _, size := range []int{0, 200, 201, 1009, 1010, 60000} {
			put(t, x, m, "k", text(size, 2))
			holds(t, fmt.Sprintf("%s, then %d", what, size), x, m)
			drop(t, x, m, "k")
			want(t, fmt.Sprintf("%s, then %d, then none, Pages", what, size), x.Pages(), 0)
			put(t, x, m, "k", text(size, 2))
			holds(t, fmt.Sprintf("%s, then %d once more", what, size), x, m)
		}
		commit(t, x)
		drop(t, x, m, "k")
		commit(t, x)
		want(t, what+", no page in the end", fmt.Sprint(x.Pages(), p.Meta().Root, p.Spare() == p.Meta().Pages-2), "0 0 true")
	}
}

// P11.3: Put in the place of a pair that is there: neither Len nor any other pair changes, whatever kinds the two values are of.
func TestPutAgain(t *testing.T) {
	sizes := []int{0, 1, 200, 201, 1009, 1010, 5000}
	for _, old := range sizes {
		for _, size := range sizes {
			for _, committed := range []bool{false, true} {
				what := fmt.Sprintf("%d bytes, then %d, committed %v", old, size, committed)
				x, _ := opened(t, disk.New(60))
				m := model{}
				for i, k := range []string{"a", "b", "c", "d", "e", "f", "g"} {
					put(t, x, m, k, text(old, i))
				}
				if committed {
					commit(t, x)
				}
				put(t, x, m, "d", text(size, 9))
				holds(t, what, x, m)
				want(t, what+", Commit", x.Commit(), api.OK)
				holds(t, what+", then committed", x, m)
			}
		}
	}
}

// P11.3: Delete of keys that are there and of keys that aren't, in an empty tree, ahead of a commit and behind it.
func TestDelete(t *testing.T) {
	x, _ := opened(t, disk.New(50))
	m := model{}
	want(t, "of no pairs", deleted(x.Delete("a")), "false")
	want(t, "of no pairs, no key", deleted(x.Delete("")), "false")
	for _, k := range []string{"", "a", "b", "bb", "c"} {
		put(t, x, m, k, k+"!")
	}
	want(t, "of none", deleted(x.Delete("ba")), "false")
	holds(t, "behind none", x, m)
	drop(t, x, m, "b")
	holds(t, "behind one", x, m)
	want(t, "once more", deleted(x.Delete("b")), "false")
	commit(t, x)
	want(t, "once more, committed", deleted(x.Delete("b")), "false")
	drop(t, x, m, "")
	holds(t, "behind two", x, m)
	put(t, x, m, "b", "again")
	drop(t, x, m, "c")
	holds(t, "one that is there again", x, m)
	for _, k := range m.keys() {
		drop(t, x, m, k)
	}
	holds(t, "all", x, m)
	want(t, "of no pairs any more", deleted(x.Delete("a")), "false")
	want(t, "Pages", x.Pages(), 0)

	x, _, d, m := some(t)
	ops := d.Ops()
	for _, k := range m.keys() {
		want(t, "of none", deleted(x.Delete(k+"\x00")), "false")
	}
	reads := d.Ops() - ops
	want(t, "Commit behind Delete of none", fmt.Sprint(x.Commit(), d.Ops()-ops), fmt.Sprint(api.OK, reads))
}

// orders is the numbers below n in some orders.
func orders(n int) map[string][]int {
	rising, spread := make([]int, n), make([]int, n)
	for i := range n {
		rising[i] = i
		spread[i] = i * 37 % n
	}
	falling := slices.Clone(rising)
	slices.Reverse(falling)
	out := slices.Concat(falling[n/2:], rising[n/2:])
	return map[string][]int{"rising": rising, "falling": falling, "spread": spread, "out of the middle": out}
}

// parts is how many pages the values of a model need beside the leaves.
func parts(m model) int {
	n := 0
	for _, v := range m {
		if len(v) > api.MaxInline {
			n += (len(v) + partSize - 1) / partSize
		}
	}
	return n
}

// P11.3 and P11.5: many pairs put in one order and deleted in another one: a tree behind each step, and in the end no pair and no page.
func TestOrders(t *testing.T) {
	const n = 120
	for in, puts := range orders(n) {
		for out, deletes := range orders(n) {
			for kind, of := range map[string]func(i int) (string, string){
				"short keys": func(i int) (string, string) { return fmt.Sprintf("%04d", i), text(i, i) },
				"long keys":  func(i int) (string, string) { return fmt.Sprintf("%04d", i) + strings.Repeat("k", 124), text(i%5, i) },
				"keys of all": func(i int) (string, string) {
					return fmt.Sprintf("%03d", i) + strings.Repeat("k", i*41%126), text(i*83%401, i)
				},
			} {
				what := fmt.Sprintf("%s, put %s, deleted %s", kind, in, out)
				x, p := opened(t, disk.New(1000))
				m := model{}
				for i, at := range puts {
					k, v := of(at)
					put(t, x, m, k, v)
					if e := x.Check(); e != api.OK || x.Len() != i+1 {
						t.Fatalf("%s: put %d: Check %d, Len %d", what, i, e, x.Len())
					}
				}
				holds(t, what, x, m)
				if in == "rising" {
					commit(t, x)
				}
				for i, at := range deletes {
					k, _ := of(at)
					drop(t, x, m, k)
					if e := x.Check(); e != api.OK || x.Len() != n-i-1 {
						t.Fatalf("%s: deleted %d: Check %d, Len %d", what, i, e, x.Len())
					}
					if i == n/2 {
						holds(t, what+", half of it", x, m)
					}
					if pages := 1 + parts(m); len(m) == 1 {
						want(t, what+", Pages of the last pair", x.Pages(), pages)
					}
				}
				want(t, what+", Pages", x.Pages(), 0)
				want(t, what+", Commit", x.Commit(), api.OK)
				want(t, what+", all pages are spare", fmt.Sprint(p.Spare(), p.Meta().Root, p.Meta().Entries), fmt.Sprint(p.Meta().Pages-2, 0, 0))
			}
		}
	}
}

// P11.3 and P11.5: nodes that have become small are put together: few pairs have few pages, whatever there was ahead.
func TestFewPages(t *testing.T) {
	x, _ := opened(t, disk.New(3000))
	m := model{}
	for i := range 3000 {
		put(t, x, m, fmt.Sprintf("%05d", i*1009%3000), text(100, i))
	}
	full := x.Pages()
	want(t, "a page has at least some four pairs", full < 3000/4, true)
	for i := range 3000 {
		if i%60 != 7 {
			drop(t, x, m, fmt.Sprintf("%05d", i))
		}
	}
	holds(t, "one of sixty", x, m)
	want(t, fmt.Sprintf("50 pairs of 109 bytes: %d pages", x.Pages()), x.Pages() <= 14, true)
}

// P11.3 and P11.5: of two leaves, one is left as soon as there is room for all pairs in it, whichever of the two they are deleted from.
func TestPutTogether(t *testing.T) {
	for _, from := range []int{0, 5} {
		x, _ := opened(t, disk.New(30))
		m := model{}
		for i := range 10 {
			put(t, x, m, fmt.Sprintf("key%d", i), text(100, i))
		}
		want(t, "Pages of 10 pairs", x.Pages(), 3)
		for i := range 2 {
			drop(t, x, m, fmt.Sprintf("key%d", from+i))
			holds(t, "deleted", x, m)
		}
		want(t, fmt.Sprintf("Pages of 8 pairs, from %d on deleted", from), x.Pages(), 1)
	}
	// Values that become smaller leave as much room as pairs that are deleted.
	x, _ := opened(t, disk.New(30))
	m := model{}
	for i := range 10 {
		put(t, x, m, fmt.Sprintf("key%d", i), text(100, i))
	}
	for i := range 10 {
		put(t, x, m, fmt.Sprintf("key%d", i), "")
		holds(t, "smaller", x, m)
	}
	want(t, "Pages of 10 small pairs", x.Pages(), 1)
}

// P11.3: a Put reads the way down alone, a Delete the neighbours on it too.
func TestChangesRead(t *testing.T) {
	_, _, d, m := some(t)
	for _, k := range m.keys() {
		x, p := opened(t, d.Copy())
		old := p.Reads()
		put(t, x, model{}, k+"x", "")
		want(t, "reads of Put", p.Reads()-old, 3)
		x, p = opened(t, d.Copy())
		old = p.Reads()
		drop(t, x, model{}, k)
		reads := p.Reads() - old
		want(t, fmt.Sprintf("%d reads of Delete", reads), reads <= 3+4+parts(model{k: m[k]}), true)
	}
}

// P11.3: pairs with keys below all others make the least key of each branch on the way be that.
func TestPutBelow(t *testing.T) {
	d := laid(100, api.Meta{Root: 8, Entries: 4, Pages: 9}, map[int]string{
		8: branch(to("d", 6), to("m", 7)), 6: branch(to("d", 2), to("f", 3)), 7: branch(to("o", 4), to("t", 5)),
		2: leaf("e"), 3: leaf("f"), 4: leaf("o"), 5: leaf("z"),
	})
	x, _ := opened(t, d)
	m := model{"e": "e", "f": "f", "o": "o", "z": "z"}
	for _, k := range []string{"c", "d", "b", "n", "mm", "m", "a", "", "l"} {
		put(t, x, m, k, k)
		holds(t, "Put of "+k, x, m)
	}
	commit(t, x)
	x, _ = opened(t, d)
	holds(t, "opened anew", x, m)
	for _, k := range m.keys() {
		drop(t, x, m, k)
		holds(t, "Delete of "+k, x, m)
	}

	// Branches that are full, and whose least key becomes far longer: they have to be cut in two.
	x, _ = opened(t, disk.New(3000))
	m = model{}
	for i := range 1200 {
		put(t, x, m, "m"+fmt.Sprintf("%04d", i), text(180, i))
	}
	for i := 300; i < 600; i++ {
		drop(t, x, m, "m"+fmt.Sprintf("%04d", i))
	}
	for i := 598; i >= 300; i-- {
		put(t, x, m, "m"+fmt.Sprintf("%04d", i)+strings.Repeat("x", 123), text(i%2*150, i))
		if e := x.Check(); e != api.OK {
			t.Fatalf("Put of %d: Check %d", i, e)
		}
	}
	holds(t, "far longer keys", x, m)
	commit(t, x)
	holds(t, "far longer keys, committed", x, m)
}

// P11.3: a tree without a pair may have a root all the same; it is needed no more behind the first change.
func TestEmptyRoots(t *testing.T) {
	for what, root := range map[string]string{"a leaf": leaf(), "a branch": branch()} {
		d := laid(10, api.Meta{Root: 3, Pages: 4}, map[int]string{3: root})
		x, p := opened(t, d)
		asked(t, what, x, model{}, "", "a")
		want(t, what+", Delete", deleted(x.Delete("a")), "false")
		want(t, what+", Commit", fmt.Sprint(x.Commit(), p.Meta().Tx), fmt.Sprint(api.OK, 0))
		m := model{}
		put(t, x, m, "a", "1")
		want(t, what+", Pages", x.Pages(), 1)
		commit(t, x)
		holds(t, what, x, m)
		want(t, what+", what is spare", p.Spare(), p.Meta().Pages-2-1)
		x, _ = opened(t, d)
		holds(t, what+", opened anew", x, m)
	}
}

// taken takes all pages that there are, so that no Alloc is told one any more.
func taken(t *testing.T, p *pager.Pager) []int {
	t.Helper()
	var l []int
	for {
		n, e := p.Alloc()
		if e != api.OK {
			want(t, "Alloc", e, api.ErrFull)
			return l
		}
		l = append(l, n)
	}
}

// P11.3: Put and Delete allocate the pages that they need, and write nothing; P11.4: Commit allocates none, and writes each page that is new.
func TestAllocates(t *testing.T) {
	x, p, d, m := some(t)
	ops, reads, used := d.Ops(), p.Reads(), d.Used()
	put(t, x, m, "new", text(2500, 1))
	for _, k := range m.keys()[20:40] {
		drop(t, x, m, k)
	}
	put(t, x, m, "key070", text(100, 2))
	want(t, "operations are reads", d.Ops()-ops, p.Reads()-reads)
	want(t, "pages that were written", d.Used(), used)
	made := x.made.count()
	l := taken(t, p)
	ops = d.Ops()
	want(t, "Commit without a page that is left", x.Commit(), api.OK)
	want(t, "operations", d.Ops()-ops, made+3)
	want(t, "Commit has freed what is needed no more", p.Free(l...), len(l))
	holds(t, "committed", x, m)

	x, p, d, m = some(t)
	l = taken(t, p)
	for _, k := range []string{"", "key070", "new", m.keys()[30]} {
		want(t, "Put without a page that is left", x.Put(k, "v"), api.ErrFull)
		want(t, "Put without a page that is left, of a great value", x.Put(k, text(3000, 1)), api.ErrFull)
	}
	for _, k := range m.keys() {
		want(t, "Delete without a page that is left", deleted(x.Delete(k)), "error 16")
	}
	want(t, "Delete of none without a page that is left", deleted(x.Delete("no")), "false")
	ops = d.Ops()
	want(t, "Commit of nothing", fmt.Sprint(x.Commit(), d.Ops()-ops), fmt.Sprint(api.OK, 0))
	p.Free(l...)
	want(t, "Put with pages", x.Put("new", "v"), api.OK)
}

// P11.3: a page that no commit knows of is changed without another one.
func TestChangesItsOwn(t *testing.T) {
	d := disk.New(5)
	x, _ := opened(t, d)
	m := model{}
	put(t, x, m, "a", text(1500, 1))
	want(t, "Put without room", x.Put("b", text(201, 2)), api.ErrFull)
	put(t, x, m, "a", text(2000, 3))
	put(t, x, m, "b", text(200, 4))
	put(t, x, m, "a", text(200, 5))
	put(t, x, m, "b", text(2018, 6))
	holds(t, "on three pages", x, m)
	commit(t, x)
	want(t, "Put without room behind Commit", x.Put("b", "1"), api.ErrFull)
	want(t, "Delete without room behind Commit", deleted(x.Delete("b")), "error 16")
	holds(t, "on three pages, committed", x, m)
	d.Limit(6)
	put(t, x, m, "b", "1")
	holds(t, "with one page more", x, m)
	commit(t, x)
	want(t, "Pages", x.Pages(), 1)
	drop(t, x, m, "b")
	drop(t, x, m, "a")
	holds(t, "nothing", x, m)
	commit(t, x)
}

// P11.3: devices of all sizes, filled up: what has no room is told, nothing has changed then, and what is there can be committed and deleted.
func TestFull(t *testing.T) {
	for _, pages := range []int{2, 3, 4, 5, 6, 7, 8, 10, 13, 17, 22, 30, 39} {
		what := fmt.Sprintf("%d pages", pages)
		d := disk.New(pages)
		x, p := opened(t, d)
		m := model{}
		full := 0
		for i := range 100 {
			k, v := fmt.Sprintf("key%03d", i*37%100)+strings.Repeat("k", i%100), text(i*53%350, i)
			if i%7 == 0 {
				v = text(1500, i)
			}
			e := x.Put(k, v)
			if e == api.OK {
				m[k] = v
			} else {
				want(t, what+", Put", e, api.ErrFull)
				full++
			}
			if i%5 == 0 {
				holds(t, what, x, m)
			}
			if e != api.OK && i%3 == 0 {
				commit(t, x)
			}
		}
		want(t, what+", it was full", full > 0, true)
		commit(t, x)
		holds(t, what+", committed", x, m)
		want(t, what+", no page beyond", fmt.Sprint(d.Used() <= pages, p.Meta().Pages <= pages), "true true")
		for _, k := range m.keys() {
			switch s := deleted(x.Delete(k)); s {
			case "true":
				delete(m, k)
			default:
				want(t, what+", Delete", s, "error 16")
			}
			holds(t, what+", deleted", x, m)
		}
		commit(t, x)
		x, _ = opened(t, d)
		holds(t, what+", opened anew", x, m)
		d.Limit(pages + 10)
		for _, k := range m.keys() {
			drop(t, x, m, k)
		}
		commit(t, x)
		want(t, what+", nothing in the end", fmt.Sprint(x.Len(), x.Pages(), int(x.Check())), "0 0 0")
	}
}

// P11.3: behind ErrFull, in whatever part of a call, all pages that it had taken are the pager's again.
func TestFullGivesBack(t *testing.T) {
	type call struct {
		what string
		need int // of pages
		do   func(x *Tree) api.Errno
	}
	calls := []call{
		{"Put", 3, func(x *Tree) api.Errno { return x.Put("key020", "") }},
		{"Put in a place", 3, func(x *Tree) api.Errno { return x.Put("key123long", "") }},
		{"Put of a great value", 3 + 20, func(x *Tree) api.Errno { return x.Put("key020", text(20000, 1)) }},
		{"Put of a great value in a place", 3 + 20, func(x *Tree) api.Errno { return x.Put("key123long", text(20000, 1)) }},
		{"Delete", 3, func(x *Tree) api.Errno { _, e := x.Delete("key123long"); return e }},
	}
	for _, c := range calls {
		x, p, _, m := some(t)
		all, pages := taken(t, p), x.Pages()
		for room := range c.need {
			p.Free(all[:room]...)
			what := fmt.Sprintf("%s, with %d pages", c.what, room)
			want(t, what, c.do(x), api.ErrFull)
			want(t, what+", what is spare, Pages", fmt.Sprint(p.Spare(), x.Pages()), fmt.Sprint(room, pages))
			holds(t, what, x, m)
			taken(t, p)
		}
		p.Free(all[:c.need]...)
		want(t, c.what+", with just as many as it needs", c.do(x), api.OK)
		want(t, c.what+", what is spare", p.Spare(), 0)
		want(t, c.what+", Check", x.Check(), api.OK)
	}

	// What was made since the last commit is used anew; of that, too, nothing has changed behind an error.
	x, p, _, m := some(t)
	put(t, x, m, "key020", text(4000, 1))
	all := taken(t, p)
	for room := range 16 {
		p.Free(all[:room]...)
		what := fmt.Sprintf("anew, with %d pages", room)
		want(t, what, x.Put("key020", text(20000, 2)), api.ErrFull)
		want(t, what+", what is spare", p.Spare(), room)
		holds(t, what, x, m)
		taken(t, p)
	}
	p.Free(all[:16]...)
	put(t, x, m, "key020", text(20000, 2))
	holds(t, "anew", x, m)
}

// P11.3: each operation of a Put or Delete failing: the error is told, and nothing has changed; then it is done.
func TestChangesFail(t *testing.T) {
	type call struct {
		what string
		do   func(x *Tree) string
	}
	_, _, _, m := some(t)
	keys := m.keys()
	putting := func(k, v string) call {
		return call{fmt.Sprintf("Put(%.8q, %d bytes)", k, len(v)), func(x *Tree) string { return fmt.Sprintf("error %d", x.Put(k, v)) }}
	}
	calls := []call{putting("", "v"), putting("key050", "v"), putting("key050", text(5000, 1)), putting("key123long", "v"), putting("key123long", text(4000, 1)), putting(keys[10], "")}
	for i := range keys {
		if i%12 == 0 || len(keys[i]) < 20 {
			calls = append(calls, call{fmt.Sprintf("Delete(%.12q)", keys[i]), func(x *Tree) string { return deleted(x.Delete(keys[i])) }})
		}
	}
	for _, changes := range []bool{false, true} {
		start := func() (*Tree, *pager.Pager, *disk.Disk, model) {
			x, p, d, m := some(t)
			for i, k := range keys {
				if changes && i < 60 && i%6 != 0 && len(k) > 20 {
					drop(t, x, m, k)
				}
			}
			return x, p, d, m
		}
		for _, c := range calls {
			x, _, d, _ := start()
			ops := -d.Ops()
			c.do(x)
			ops += d.Ops()
			x, p, d, m := start()
			pages, spare := x.Pages(), p.Spare()
			for op := range 2 * ops {
				fault, tells := func() { d.Fail(op/2 + 1) }, "error 14"
				if op%2 == 1 {
					fault, tells = func() { d.Arm(op / 2) }, "error 15"
				}
				fault()
				what := fmt.Sprintf("%s, operation %d", c.what, op/2)
				want(t, what, c.do(x), tells)
				d.Crash()
				want(t, what+", Pages", fmt.Sprint(x.Pages(), p.Spare()), fmt.Sprint(pages, spare))
				if op < 2 || op >= 2*ops-2 {
					holds(t, what, x, m)
				}
			}
			s := c.do(x)
			want(t, c.what+", with no fault any more", s == "true" || s == "error 0", true)
			want(t, c.what+", Check", x.Check(), api.OK)
		}
	}
}

// P11.4: Commit without changes, also behind a commit, behind a rollback, behind calls that were refused or did nothing: nothing is written.
func TestCommitOfNothing(t *testing.T) {
	d := disk.New(40)
	x, p := opened(t, d)
	nothing := func(what string, call func()) {
		t.Helper()
		call()
		old, meta := d.Ops(), p.Meta()
		d.Fail(1)
		want(t, what+", Commit", x.Commit(), api.OK)
		d.Clear()
		want(t, what+", operations", d.Ops()-old, 0)
		want(t, what+", Meta", p.Meta(), meta)
	}
	nothing("a new tree", func() {})
	nothing("Delete of none", func() { x.Delete("a") })
	nothing("Put of too much", func() { x.Put("a", text(60001, 1)) })
	nothing("Put without room", func() { x.Put("a", text(60000, 1)) })
	nothing("Put and Rollback", func() { x.Put("a", "1"); x.Rollback() })
	want(t, "Put", x.Put("a", "1"), api.OK)
	want(t, "Commit", fmt.Sprint(x.Commit(), p.Meta()), fmt.Sprint(api.OK, api.Meta{Tx: 1, Root: 2, Entries: 1, Pages: 3}))
	nothing("Commit", func() {})
	nothing("what asks", func() {
		x.Get("a")
		x.Seek("")
		x.Before("b")
		x.Last()
		x.Len()
		x.Check()
		x.Pages()
	})
	nothing("Delete and Rollback", func() { x.Delete("a"); x.Rollback() })
	x, p = opened(t, d)
	nothing("opened", func() {})
	d.Arm(0)
	d.Sync()
	want(t, "Commit of nothing without power", x.Commit(), api.OK)
}

// P11.4: what was put and deleted is a change, also if the pairs are as they were.
func TestCommitOfLittle(t *testing.T) {
	x, p := opened(t, disk.New(40))
	m := model{}
	tx := func(what string, call func()) {
		t.Helper()
		old := p.Meta().Tx
		call()
		commit(t, x)
		want(t, what+", Tx", p.Meta().Tx, old+1)
		want(t, what+", Entries", p.Meta().Entries, len(m))
		holds(t, what, x, m)
	}
	tx("Put and Delete", func() { put(t, x, m, "a", "1"); drop(t, x, m, "a") })
	tx("Put", func() { put(t, x, m, "a", "1") })
	tx("Put of the same", func() { put(t, x, m, "a", "1") })
	tx("Delete and Put", func() { drop(t, x, m, "a"); put(t, x, m, "a", "1") })
	tx("Delete", func() { drop(t, x, m, "a") })
}

// P11.4: each operation of Commit failing: the error is told, the changes are still there; a Rollback takes them away, or the next Commit is done, if the pager is not broken.
func TestCommitFails(t *testing.T) {
	change := func(x *Tree, m model) {
		for _, k := range m.keys()[30:50] {
			drop(t, x, m, k)
		}
		put(t, x, m, "new", text(2500, 1))
	}
	ops := 0
	{
		x, _, d, m := some(t)
		change(x, m)
		ops = -d.Ops()
		commit(t, x)
		ops += d.Ops()
	}
	for op := range ops {
		for _, back := range []bool{false, true} {
			x, p, d, m := some(t)
			old := model{}
			for k, v := range m {
				old[k] = v
			}
			change(x, m)
			pages, last := x.Pages(), x.last.pages
			what := fmt.Sprintf("operation %d of %d", op, ops)
			d.Fail(op + 1)
			want(t, what, x.Commit(), api.ErrDisk)
			d.Clear()
			want(t, what+", Broken", p.Broken(), op >= ops-3)
			holds(t, what, x, m)
			want(t, what+", Pages", x.Pages(), pages)
			if back {
				x.Rollback()
				holds(t, what+", rolled back", x, old)
				want(t, what+", rolled back, Pages", x.Pages(), last)
				before := d.Ops()
				want(t, what+", rolled back, Commit", fmt.Sprint(x.Commit(), d.Ops()-before), fmt.Sprint(api.OK, 0))
				goesOn(t, x, old, p.Broken())
				continue
			}
			if p.Broken() {
				want(t, what+", Commit of a broken pager", x.Commit(), api.ErrState)
				holds(t, what+", once more", x, m)
				continue
			}
			put(t, x, m, "newer", "1")
			commit(t, x)
			x, _ = opened(t, d)
			holds(t, what+", committed and opened anew", x, m)
		}
	}
}

// goesOn is a Put behind a rollback: without a pager that is whole there is no page for it.
func goesOn(t *testing.T, x *Tree, m model, broken bool) {
	t.Helper()
	if broken {
		want(t, "Put of a broken pager", x.Put("more", "1"), api.ErrState)
		want(t, "Delete of a broken pager", deleted(x.Delete(m.keys()[3])), "error 13")
	} else {
		put(t, x, m, "more", "1")
		commit(t, x)
	}
	holds(t, "Put behind a rollback", x, m)
}

// P11.4: Rollback behind changes of all kinds: pairs, Len and Pages are those of the last commit, and all pages are the pager's again.
func TestRollback(t *testing.T) {
	x, p := opened(t, disk.New(50))
	x.Rollback()
	put(t, x, model{}, "a", text(5000, 1))
	want(t, "Pages", x.Pages(), 6)
	x.Rollback()
	want(t, "of a new tree", fmt.Sprint(x.Len(), x.Pages(), int(x.Check()), p.Spare(), p.Meta().Pages), "0 0 0 0 2")
	asked(t, "of a new tree", x, model{}, "", "a")

	x, p, d, m := some(t)
	pages, spare, meta, used := x.Pages(), p.Spare(), p.Meta(), d.Used()
	now := func(what string, call func(m model)) {
		t.Helper()
		changed := model{}
		for k, v := range m {
			changed[k] = v
		}
		call(changed)
		holds(t, what, x, changed)
		x.Rollback()
		holds(t, what+", rolled back", x, m)
		want(t, what+", rolled back, Pages", fmt.Sprint(x.Pages(), p.Spare(), p.Meta(), d.Used()), fmt.Sprint(pages, spare, meta, used))
	}
	now("nothing", func(model) {})
	now("Put", func(m model) { put(t, x, m, "new", "1") })
	now("Put of a great value", func(m model) { put(t, x, m, "new", text(60000, 1)) })
	now("Put in a place", func(m model) { put(t, x, m, "key123long", text(60000, 1)) })
	now("Delete", func(m model) { drop(t, x, m, "key123long") })
	now("Delete of all", func(m model) {
		for _, k := range m.keys() {
			drop(t, x, m, k)
		}
	})
	now("Put of many", func(m model) {
		for i := range 300 {
			put(t, x, m, fmt.Sprintf("k%03d", i*7%300), text(i, i))
		}
	})
	put(t, x, m, "new", "1")
	commit(t, x)
	drop(t, x, m, "new")
	x.Rollback()
	m["new"] = "1"
	holds(t, "behind a commit", x, m)
	x, _ = opened(t, d)
	holds(t, "opened anew", x, m)
}

// P11.5: Check tells what is no tree, also among changes.
func TestCheck(t *testing.T) {
	x, p, d, m := some(t)
	put(t, x, m, "key070", "1")
	want(t, "a tree", x.Check(), api.OK)
	path, _ := x.downTo("key070")
	n := path.end().node
	wrong := func(what string, page int, other api.Node) {
		t.Helper()
		old := x.made.nodes[page]
		x.made.nodes[page] = other
		want(t, what, x.Check(), api.ErrStore)
		x.made.nodes[page] = old
		want(t, what+", as it was", x.Check(), api.OK)
	}
	at, up := path.end().page, path[1]
	wrong("a leaf without a cell", at, api.Node{Leaf: true})
	wrong("a pair less", at, node.Drop(n, 0))
	wrong("a pair more", at, node.Put(n, api.Cell{Key: "key070a"}))
	wrong("a key out of order", at, node.Put(n, api.Cell{Key: "z"}))
	wrong("a branch in a leaf's place", at, api.Node{Cells: []api.Cell{to("key070", at)}})
	wrong("a leaf in a branch's place", up.page, n)
	twice := slices.Clone(up.node.Cells)
	twice[up.at].Page = twice[(up.at+1)%len(twice)].Page
	wrong("a page used twice", up.page, api.Node{Cells: twice})

	commit(t, x)
	for _, what := range []string{"page", "device"} {
		c := d.Copy()
		x, q := opened(t, c)
		if what == "page" {
			c.Write(q.Meta().Root, leaf("a"))
			want(t, "another page", x.Check(), api.ErrStore)
		} else {
			c.Limit(p.Meta().Root)
			want(t, "fewer pages", x.Check(), api.ErrStore)
		}
	}
}

// P11.2: a page that has become another one since it was read is told.
func TestChangedPages(t *testing.T) {
	for what, other := range map[string]string{"no cell": leaf(), "a branch": branch(to("", 2)), "a part": piece(0, ""), "zeros": strings.Repeat("\x00", 1024)} {
		x, _, d, m := some(t)
		k := m.keys()[70]
		path, _ := x.downTo(k)
		d.Write(path.end().page, other)
		want(t, what+", Get", got(x.Get(k)), "error 17")
		want(t, what+", Seek", pair(x.Seek(k)), "error 17")
		want(t, what+", Before", pair(x.Before(k)), "error 17")
		want(t, what+", Put", x.Put(k, ""), api.ErrStore)
		want(t, what+", Delete", deleted(x.Delete(k)), "error 17")
		want(t, what+", Check", x.Check(), api.ErrStore)
		want(t, what+", of another one", got(x.Get(m.keys()[3])), m.get(m.keys()[3]))
	}
	x, _, d, _ := some(t)
	path, _ := x.downTo("key123long")
	c, _ := path.end().cell("key123long")
	for what, other := range map[string]string{"a leaf": leaf("a"), "too few bytes": piece(0, "x"), "an end": piece(0, text(1009, 1))} {
		d.Write(c.Page, other)
		want(t, what+", Get", got(x.Get("key123long")), "error 17")
		want(t, what+", Seek", pair(x.Seek("key123long")), "error 17")
		want(t, what+", Before", pair(x.Before("key123long\x00")), "error 17")
		want(t, what+", Put", x.Put("key123long", ""), api.ErrStore)
		want(t, what+", Delete", deleted(x.Delete("key123long")), "error 17")
	}
}

// P1: each call ends, whoever writes to the device behind the tree's back.
func TestStrangers(t *testing.T) {
	_, p, d, m := some(t)
	pages := []string{leaf(), leaf("a", "z"), branch(), branch(to("", 2)), branch(to("", 3), to("key070", 4), to("key071", 2)), long(apart("key070", 5, 3000)), piece(5, text(1009, 1)), piece(0, ""), strings.Repeat("\x00", 1024)}
	for from := range p.Meta().Pages {
		d := d.Copy()
		x, _ := opened(t, d)
		for n := range 40 {
			d.Write(2+(from+n*3)%(p.Meta().Pages-2), pages[(from+n)%len(pages)])
		}
		for _, k := range append(m.keys()[:40], "", "a", "key070", "z") {
			x.Get(k)
			x.Seek(k)
			x.Before(k)
			x.Put(k, text(from*20, 1))
			x.Delete(k)
		}
		x.Last()
		x.Check()
		x.Commit()
		x.Rollback()
		x.Last()
	}
}

// A nil tree: ErrArg, false, 0, nothing.
func TestNil(t *testing.T) {
	var x *Tree
	x.Rollback()
	want(t, "Get", got(x.Get("a")), "error 1")
	want(t, "Seek", pair(x.Seek("a")), "error 1")
	want(t, "Before", pair(x.Before("a")), "error 1")
	want(t, "Last", pair(x.Last()), "error 1")
	want(t, "Delete", deleted(x.Delete("a")), "error 1")
	want(t, "Put", x.Put("a", "1"), api.ErrArg)
	want(t, "Put of too much", x.Put(text(129, 1), text(60001, 1)), api.ErrArg)
	want(t, "Commit", x.Commit(), api.ErrArg)
	want(t, "Check", x.Check(), api.ErrArg)
	want(t, "Len and Pages", fmt.Sprint(x.Len(), x.Pages()), "0 0")
}

// P1: nothing is promised of a zero tree, but that no call panics.
func TestZero(t *testing.T) {
	var x Tree
	x.Rollback()
	want(t, "Get", got(x.Get("a")), "none")
	want(t, "Seek", pair(x.Seek("a")), "none")
	want(t, "Before", pair(x.Before("a")), "none")
	want(t, "Last", pair(x.Last()), "none")
	want(t, "Delete", deleted(x.Delete("a")), "false")
	want(t, "Put", x.Put("a", "1"), api.ErrArg)
	want(t, "Commit", x.Commit(), api.OK)
	want(t, "Check", x.Check(), api.OK)
	want(t, "Len and Pages", fmt.Sprint(x.Len(), x.Pages()), "0 0")
	y, e := Open(&pager.Pager{})
	want(t, "of a zero pager", fmt.Sprint(int(e), y.Len(), int(y.Put("a", "1"))), "0 0 16")
}
