package kv

import (
	"fmt"
	"maps"
	"math"
	"slices"
	"strings"
	"testing"

	"loess/api"
	"loess/disk"
	"loess/pager"
	"loess/tree"
)

// The chapter's examples.
func TestExamples(t *testing.T) {
	s := opened(t, disk.New(100))
	x := begun(t, s)
	want(t, "Put(1, a, x)", x.Put(1, "a", "x"), api.OK)
	want(t, "Put(2, a, y)", x.Put(2, "a", "y"), api.OK)
	want(t, "Seek(1, b)", pair(x.Seek(1, "b")), "none")
	want(t, "Get(2, a)", got(x.Get(2, "a")), `"y"`)

	want(t, "Begin again", begin(s), "error 13")
	x.Rollback()
	x = begun(t, s)
	want(t, "Get(1, a)", got(x.Get(1, "a")), "none")

	want(t, "Add(3, k, b)", x.Add(3, "k", "b"), api.OK)
	want(t, "Add(3, k, a)", x.Add(3, "k", "a"), api.OK)
	want(t, "Items(3, k)", items(x.Items(3, "k")), `["a" "b"]`)
	want(t, "Remove(3, k, a)", was(x.Remove(3, "k", "a")), "true")
}

// opening is what Open tells of a device, as a text.
func opening(d *disk.Disk) string {
	s, e := Open(d)
	if (s == nil) != (e != api.OK) {
		return fmt.Sprintf("a store beside error %d, or none", e)
	}
	if e != api.OK {
		return failed(e)
	}
	return fmt.Sprintf("Tx %d, Pages %d", s.Tx(), s.Pages())
}

// P12.1: Open of nil, of a new device, of one with pairs, and of those that pager.Open and tree.Open refuse.
func TestOpen(t *testing.T) {
	want(t, "nil", opening(nil), "error 1")
	want(t, "no page", opening(disk.New(0)), "error 16")
	want(t, "one page", opening(disk.New(1)), "error 16")
	want(t, "a new device", opening(disk.New(2)), "Tx 0, Pages 0")

	s, d, m := filled(t)
	want(t, "one with pairs", opening(d), fmt.Sprintf("Tx 1, Pages %d", s.Pages()))
	holds(t, "one with pairs", begun(t, opened(t, d)), m)
	want(t, "there are some pages", s.Pages() > 30, true)

	bad := d.Copy()
	bad.Write(0, text(1024, 1))
	bad.Write(1, text(1024, 2))
	want(t, "no meta", opening(bad), "error 17")
	for n := range d.Used() {
		bad := d.Copy()
		bad.Write(n, text(1024, 1))
		if n == 0 {
			// The one that counts stands on page 1.
			want(t, "the older meta is none", opening(bad), opening(d))
			continue
		}
		want(t, fmt.Sprintf("page %d is none", n), opening(bad) == opening(d), false)
	}
	short := d.Copy()
	short.Limit(20)
	want(t, "pages beyond the device", opening(short), "error 17")
}

// P12.1: each operation of Open failing.
func TestOpenFails(t *testing.T) {
	_, d, _ := filled(t)
	for what, start := range map[string]*disk.Disk{"pairs": d, "nothing": disk.New(4)} {
		c := start.Copy()
		before := c.Ops()
		right := opening(c)
		for op := range c.Ops() - before {
			c := start.Copy()
			c.Fail(op + 1)
			want(t, fmt.Sprintf("%s, operation %d failing", what, op), opening(c), "error 14")
			want(t, fmt.Sprintf("%s, operation %d has failed", what, op), opening(c), right)
			c = start.Copy()
			c.Arm(op)
			want(t, fmt.Sprintf("%s, no power at operation %d", what, op), opening(c), "error 15")
			c.Crash()
			want(t, fmt.Sprintf("%s, power again behind operation %d", what, op), opening(c), right)
		}
	}
}

// P12.1 and P12.4: one transaction is open at a time.
func TestBegin(t *testing.T) {
	d := disk.New(50)
	s := opened(t, d)
	ops := d.Ops()
	x := begun(t, s)
	want(t, "while one is open", begin(s), "error 13")
	want(t, "the one that is open is not changed by that", x.Put(1, "a", "1"), api.OK)
	want(t, "while one with changes is open", begin(s), "error 13")
	want(t, "Begin has done nothing", d.Ops(), ops)
	commit(t, x)
	x = begun(t, s)
	want(t, "behind Commit", got(x.Get(1, "a")), `"1"`)
	x.Put(1, "a", "2")
	x.Rollback()
	y := begun(t, s)
	want(t, "behind Rollback", got(y.Get(1, "a")), `"1"`)
	want(t, "another one", x == y, false)
	commit(t, y)

	other := opened(t, disk.New(50))
	begun(t, s)
	want(t, "in another store", begin(other), "OK")
}

// P12.1 and P12.4: behind a Commit that has failed there is no transaction till Reopen has told OK.
func TestFailed(t *testing.T) {
	s, d, m := filled(t)
	pages := s.Pages()
	x := begun(t, s)
	x.Put(1, "new", text(3000, 1))
	d.Fail(1)
	want(t, "Commit", x.Commit(), api.ErrDisk)
	want(t, "Tx and Pages", fmt.Sprint(s.Tx(), s.Pages()), fmt.Sprint(1, pages))
	for range 3 {
		want(t, "Begin", begin(s), "error 13")
	}
	x.Rollback()
	want(t, "Begin behind a Rollback of the one that has ended", begin(s), "error 13")
	c := d.Copy()
	before := c.Ops()
	opened(t, c)
	for op := range c.Ops() - before {
		d.Fail(op + 1)
		want(t, fmt.Sprintf("Reopen, operation %d failing", op), s.Reopen(), api.ErrDisk)
		want(t, "Begin behind a Reopen that has failed", begin(s), "error 13")
	}
	d.Arm(3)
	want(t, "Reopen, the power gone", s.Reopen(), api.ErrPower)
	want(t, "Begin without power", begin(s), "error 13")
	d.Crash()
	want(t, "Begin with power again", begin(s), "error 13")
	want(t, "Reopen", s.Reopen(), api.OK)
	want(t, "Tx and Pages, opened anew", fmt.Sprint(s.Tx(), s.Pages()), fmt.Sprint(1, pages))
	y := begun(t, s)
	holds(t, "opened anew", y, m)
	put(t, y, m, 1, "new", "n")
	commit(t, y)
	want(t, "Tx behind all", s.Tx(), 2)
	holds(t, "one more", begun(t, s), m)
}

// P12.1: Reopen of a store that has not failed: while a transaction is open, behind one, and with an error.
func TestReopen(t *testing.T) {
	s, d, m := filled(t)
	x := begun(t, s)
	put(t, x, m, 1, "new", text(3000, 1))
	ops := d.Ops()
	want(t, "while one is open", s.Reopen(), api.ErrState)
	want(t, "while one is open nothing is done", d.Ops(), ops)
	holds(t, "the one that is open", x, m)
	commit(t, x)

	want(t, "behind a commit", s.Reopen(), api.OK)
	want(t, "it was opened anew", d.Ops() > ops+s.Pages(), true)
	want(t, "Tx", s.Tx(), 2)
	x = begun(t, s)
	holds(t, "behind a commit", x, m)
	x.Put(1, "no more", "")
	x.Rollback()
	want(t, "behind a rollback", s.Reopen(), api.OK)
	x = begun(t, s)
	holds(t, "behind a rollback", x, m)
	x.Rollback()

	// No commit has failed: the store is as it was.
	d.Fail(3)
	want(t, "a read fails", s.Reopen(), api.ErrDisk)
	want(t, "Tx behind that", s.Tx(), 2)
	x = begun(t, s)
	holds(t, "a read has failed", x, m)
	put(t, x, m, 1, "newer", "")
	commit(t, x)
	holds(t, "and on", begun(t, opened(t, d)), m)
}

// P12.1: Reopen is of the same device, as it stands by then.
func TestReopenSees(t *testing.T) {
	d := disk.New(50)
	s := opened(t, d)
	other := opened(t, d)
	x := begun(t, other)
	x.Put(1, "a", "other")
	commit(t, x)
	want(t, "Tx ahead", s.Tx(), 0)
	want(t, "Reopen", s.Reopen(), api.OK)
	want(t, "Tx behind", s.Tx(), 1)
	want(t, "Pages behind", s.Pages(), 1)
	want(t, "Get", got(begun(t, s).Get(1, "a")), `"other"`)
}

// P12.1: Tx and Pages behind commits, rollbacks and when opened anew.
func TestTxAndPages(t *testing.T) {
	d := disk.New(100)
	s := opened(t, d)
	stands := func(what string, tx, pages int) {
		t.Helper()
		want(t, what, fmt.Sprint(s.Tx(), s.Pages()), fmt.Sprint(tx, pages))
	}
	stands("new", 0, 0)
	x := begun(t, s)
	stands("begun", 0, 0)
	x.Put(1, "a", text(201, 1))
	stands("with changes", 0, 2)
	x.Rollback()
	stands("rolled back", 0, 0)
	x = begun(t, s)
	x.Put(1, "a", text(1010, 1))
	commit(t, x)
	stands("committed", 1, 3)
	x = begun(t, s)
	commit(t, x)
	stands("committed without changes", 1, 3)
	x = begun(t, s)
	x.Delete(1, "a")
	stands("deleted", 1, 0)
	x.Put(1, "b", "")
	stands("put", 1, 1)
	commit(t, x)
	stands("committed once more", 2, 1)
	s = opened(t, d)
	stands("opened anew", 2, 1)
	want(t, "Reopen", s.Reopen(), api.OK)
	stands("reopened", 2, 1)
}

// P12.2 and P12.4: every call of a transaction that is not open, while none is and while another one is.
func TestEnded(t *testing.T) {
	s, d, m := filled(t)
	committed := begun(t, s)
	put(t, committed, m, 1, "a", "1")
	commit(t, committed)
	rolled := begun(t, s)
	rolled.Put(1, "a", "2")
	rolled.Rollback()
	broken := begun(t, s)
	broken.Put(1, "a", "3")
	d.Fail(1)
	want(t, "Commit", broken.Commit(), api.ErrDisk)
	want(t, "Reopen", s.Reopen(), api.OK)
	ended := map[string]*Tx{"nil": nil, "zero": {}, "committed": committed, "rolled back": rolled, "failed": broken}
	refused := func(when string) {
		t.Helper()
		ops := d.Ops()
		for what, x := range ended {
			for name, call := range calls(x) {
				want(t, fmt.Sprintf("%s, %s, %s", when, what, name), call(), "error 13")
			}
			x.Rollback()
		}
		want(t, when+": nothing was done", d.Ops(), ops)
	}
	refused("while none is open")
	want(t, "Tx", s.Tx(), 2)
	y := begun(t, s)
	put(t, y, m, 1, "a", "4")
	put(t, y, m, 2, "new", text(2000, 1))
	refused("while another one is")
	holds(t, "the other one", y, m)
	commit(t, y)
	refused("behind another one")
	holds(t, "one more", begun(t, s), m)
}

// P12.2: Get, Put and Delete, of keys that are there and of those that aren't.
func TestPairs(t *testing.T) {
	s := opened(t, disk.New(100))
	x := begun(t, s)
	for _, k := range []string{"", "a", "\x00", "\xff", strings.Repeat("k", 127)} {
		what := fmt.Sprintf("%.10q", k)
		want(t, what+", Get of none", got(x.Get(7, k)), "none")
		want(t, what+", Delete of none", was(x.Delete(7, k)), "false")
		want(t, what+", Put", x.Put(7, k, "1"), api.OK)
		want(t, what+", Get", got(x.Get(7, k)), `"1"`)
		want(t, what+", Put again", x.Put(7, k, ""), api.OK)
		want(t, what+", Get of no value", got(x.Get(7, k)), `""`)
		want(t, what+", Put of a great one", x.Put(7, k, text(5000, 1)), api.OK)
		want(t, what+", Get of a great one", got(x.Get(7, k)), fmt.Sprintf("%q", text(5000, 1)))
		want(t, what+", Get in another table", got(x.Get(8, k))+got(x.Get(6, k)), "nonenone")
		want(t, what+", Delete in another table", was(x.Delete(8, k))+was(x.Delete(6, k)), "falsefalse")
		want(t, what+", Delete", was(x.Delete(7, k)), "true")
		want(t, what+", Delete again", was(x.Delete(7, k)), "false")
		want(t, what+", Get of none any more", got(x.Get(7, k)), "none")
	}
	want(t, "nothing is left", s.Pages(), 0)
}

// P12.2: how long keys and values may be, in each table.
func TestSizes(t *testing.T) {
	for _, table := range []byte{0, 1, 128, 255} {
		s := opened(t, disk.New(300))
		x := begun(t, s)
		m := model{}
		what := fmt.Sprintf("table %d, ", table)
		put(t, x, m, table, "a", "1")
		for _, size := range []int{128, 129, 255, 256, 257, 70000} {
			want(t, fmt.Sprintf("%sa key of %d bytes", what, size), x.Put(table, text(size, 1), "v"), api.ErrSize)
			want(t, fmt.Sprintf("%sa key of %d bytes, Get", what, size), got(x.Get(table, text(size, 1))), "none")
			want(t, fmt.Sprintf("%sa key of %d bytes, Delete", what, size), was(x.Delete(table, text(size, 1))), "false")
		}
		want(t, what+"a value of 60001 bytes", x.Put(table, "a", text(60001, 1)), api.ErrSize)
		want(t, what+"a new value of 60001 bytes", x.Put(table, "b", text(60001, 1)), api.ErrSize)
		want(t, what+"both", x.Put(table, text(128, 1), text(60001, 1)), api.ErrSize)
		holds(t, what+"nothing has changed", x, m)
		put(t, x, m, table, text(127, 1), text(60000, 1))
		put(t, x, m, table, text(126, 2), "")
		put(t, x, m, table, "", text(59999, 1))
		holds(t, what+"the longest", x, m)
		asked(t, what+"long keys", x, m, table, text(128, 1), text(127, 1), text(126, 1), text(1000, 2), strings.Repeat("\xff", 1000))
		commit(t, x)
		holds(t, what+"committed", begun(t, s), m)
	}
}

// P12.2: Seek, Before, Last and Range in tables with neighbours on both sides, in empty ones, in the first and in the last one.
func TestOrder(t *testing.T) {
	keys := []string{"", "\x00", "\x00\x00", "a", "a\x00", "aa", "ab", "b", "\x7f", "\x80", "\xff", "\xff\xff", strings.Repeat("\xff", 127)}
	for _, tables := range [][]byte{{}, {0}, {255}, {0, 255}, {0, 1}, {254, 255}, {9, 10, 11}, {9, 11}, {10}, {9}, {11}, {0, 9, 10, 11, 255}, {127, 128}} {
		for _, some := range [][]string{keys, {"b"}, {""}, {"a", "\xff"}, {"\x00"}} {
			s := opened(t, disk.New(200))
			x := begun(t, s)
			m := model{}
			for _, table := range tables {
				for _, k := range some {
					put(t, x, m, table, k, fmt.Sprint(table, " ", len(k)))
				}
			}
			look := func(what string) {
				t.Helper()
				what = fmt.Sprintf("tables %d, %d keys, %s", tables, len(some), what)
				holds(t, what, x, m)
				for _, table := range []byte{0, 1, 8, 9, 10, 11, 12, 127, 128, 253, 254, 255} {
					asked(t, what, x, m, table, append(keys, "A", "c", "\xfe", strings.Repeat("\xff", 200))...)
					want(t, what+", Last", pair(x.Last(table)), m.one(table, m.keys(table), len(m.keys(table))-1))
				}
			}
			look("with changes")
			commit(t, x)
			x = begun(t, s)
			look("committed")
		}
	}
}

// P12.2: Range with and without an end, from behind to, and with most around how many there are.
func TestRange(t *testing.T) {
	s := opened(t, disk.New(100))
	x := begun(t, s)
	m := model{}
	for _, k := range []string{"a", "b", "bb", "c", "d"} {
		for _, table := range []byte{0, 4, 5, 6, 255} {
			put(t, x, m, table, k, k+fmt.Sprint(table))
		}
	}
	for _, c := range []struct {
		from, to string
		most     int
		want     string
	}{
		{"", "", 9, "a b bb c d"},
		{"", "", 5, "a b bb c d"},
		{"", "", 6, "a b bb c d"},
		{"", "", math.MaxInt, "a b bb c d"},
		{"", "", 4, "a b bb c"},
		{"", "", 1, "a"},
		{"", "", 0, ""},
		{"", "", -1, ""},
		{"", "", math.MinInt, ""},
		{"b", "", 9, "b bb c d"},
		{"b\x00", "", 9, "bb c d"},
		{"d", "", 9, "d"},
		{"d\x00", "", 9, ""},
		{strings.Repeat("\xff", 300), "", 9, ""},
		{"", "a", 9, ""},
		{"", "a\x00", 9, "a"},
		{"", "\x00", 9, ""},
		{"", "d", 9, "a b bb c"},
		{"", "e", 9, "a b bb c d"},
		{"", strings.Repeat("\xff", 300), 9, "a b bb c d"},
		{"b", "c", 9, "b bb"},
		{"b", "c", 2, "b bb"},
		{"b", "c", 1, "b"},
		{"b", "c", 0, ""},
		{"b", "b", 9, ""},
		{"b", "b\x00", 9, "b"},
		{"c", "b", 9, ""},
		{"c", "a", 9, ""},
		{"ba", "bb", 9, ""},
		{"ba", "bbb", 9, "bb"},
	} {
		for _, table := range []byte{0, 4, 5, 6, 255} {
			what := fmt.Sprintf("Range(%d, %.20q, %.20q, %d)", table, c.from, c.to, c.most)
			want(t, what, many(x.Range(table, c.from, c.to, c.most)), m.some(table, strings.Fields(c.want)))
		}
		want(t, "of an empty table", many(x.Range(7, c.from, c.to, c.most)), "")
	}
}

// P12.2 and R3: what Range tells is its owner's, and Range asks nothing behind what it has to tell.
func TestRangeTold(t *testing.T) {
	s, d, m := filled(t)
	x := begun(t, s)
	l, _ := x.Range(1, "", "", 9)
	clear(l)
	holds(t, "it was changed", x, m)
	l, _ = x.Range(1, "", "", 9)
	old := slices.Clone(l)
	x.Clear(1, "")
	want(t, "it doesn't change", slices.Equal(l, old), true)
	x.Rollback()
	x = begun(t, s)
	for _, most := range []int{-1, 0} {
		ops := d.Ops()
		x.Range(1, "", "", most)
		want(t, "none are read", d.Ops(), ops)
	}
	reads := func(do func()) int {
		ops := d.Ops()
		do()
		return d.Ops() - ops
	}
	first, _, _ := x.Seek(1, "")
	one := reads(func() { x.Seek(1, "") })
	two := one + reads(func() { x.Seek(1, first.Key+"\x00") })
	want(t, "one is read", reads(func() { x.Range(1, "", "", 1) }), one)
	want(t, "two are read", reads(func() { x.Range(1, "", "", 2) }), two)
}

// P12.2: Clear of a prefix that all, some and no keys begin with.
func TestClear(t *testing.T) {
	keys := []string{"", "a", "a\x00", "aa", "ab", "b", "\xff", "\xff\x00", "\xff\xff", "\x00", strings.Repeat("\xff", 127)}
	for _, prefix := range []string{"", "a", "aa", "aaa", "b", "c", "\x00", "\xff", "\xff\xff", "\xff\xff\xff", strings.Repeat("\xff", 127), strings.Repeat("\xff", 128), strings.Repeat("a", 300)} {
		for _, table := range []byte{0, 1, 3, 4, 5, 254, 255, 7} {
			what := fmt.Sprintf("Clear(%d, %.10q)", table, prefix)
			s := opened(t, disk.New(200))
			x := begun(t, s)
			m := model{}
			for i, k := range keys {
				for _, table := range []byte{0, 1, 3, 4, 5, 254, 255} {
					put(t, x, m, table, k, text(i*40, i))
				}
			}
			old := maps.Clone(m)
			commit(t, x)
			x = begun(t, s)
			want(t, what, count(x.Clear(table, prefix)), fmt.Sprint(m.cleared(table, prefix)))
			holds(t, what, x, m)
			want(t, what+" again", count(x.Clear(table, prefix)), "0")
			x.Rollback()
			x = begun(t, s)
			holds(t, what+", rolled back", x, old)
			x.Clear(table, prefix)
			commit(t, x)
			holds(t, what+", committed", begun(t, s), m)
		}
	}
	// All tables cleared, there is nothing.
	s, _, m := filled(t)
	x := begun(t, s)
	for table := range 256 {
		want(t, fmt.Sprint("Clear of table ", table), count(x.Clear(byte(table), "")), fmt.Sprint(m.cleared(byte(table), "")))
	}
	want(t, "no page", fmt.Sprint(s.Pages(), len(m)), "0 0")
	commit(t, x)
	want(t, "no page, committed", fmt.Sprint(s.Tx(), s.Pages()), "2 0")
}

// P12.3: items of one key and of others that begin like it.
func TestItems(t *testing.T) {
	s := opened(t, disk.New(100))
	x := begun(t, s)
	m := model{}
	for _, c := range []struct{ key, item string }{
		{"k", "b"}, {"k", "a"}, {"k", ""}, {"k", "ka"}, {"k", "\x00"}, {"k", "\xff"},
		{"kk", "a"}, {"kk", "c"}, {"", "k"}, {"", ""}, {"", "ka"}, {"\x01k", "b"}, {"\x00", "z"}, {"l", "b"}, {"\x02", "kk"},
	} {
		add(t, x, m, 3, c.key, c.item)
		add(t, x, m, 4, c.key, c.item+"4")
	}
	told := func(key, all string) {
		t.Helper()
		want(t, fmt.Sprintf("Items of %.10q", key), items(x.Items(3, key)), all)
	}
	look := func() {
		t.Helper()
		told("k", `["" "\x00" "a" "b" "ka" "\xff"]`)
		told("kk", `["a" "c"]`)
		told("", `["" "k" "ka"]`)
		told("\x01k", `["b"]`)
		told("\x00", `["z"]`)
		told("\x02", `["kk"]`)
		told("l", `["b"]`)
		told("j", `[]`)
		told("kkk", `[]`)
		told(strings.Repeat("k", 125), `[]`)
		told(strings.Repeat("k", 256), `[]`)
		told(strings.Repeat("k", 257), `[]`)
		told(strings.Repeat("k", 70000), `[]`)
		want(t, "Items of another table", items(x.Items(4, "kk")), `["a4" "c4"]`)
		want(t, "Items of an empty table", items(x.Items(5, "k")), `[]`)
		holds(t, "items", x, m)
	}
	look()
	for _, item := range []string{"", "a", "ka"} {
		want(t, "Add of one that is there already", x.Add(3, "k", item), api.OK)
	}
	look()
	commit(t, x)
	x = begun(t, s)
	look()

	want(t, "Remove", was(x.Remove(3, "k", "a")), "true")
	want(t, "Remove again", was(x.Remove(3, "k", "a")), "false")
	want(t, "Remove of one of another key", was(x.Remove(3, "k", "c")), "false")
	want(t, "Remove of one of another table", was(x.Remove(5, "k", "b")), "false")
	want(t, "Remove of a key that is none", was(x.Remove(3, "kka", "")), "false")
	want(t, "Remove of the empty item", was(x.Remove(3, "k", "")), "true")
	want(t, "Remove of the empty key's", was(x.Remove(3, "", "k")), "true")
	want(t, "Remove of too much", was(x.Remove(3, "k", text(125, 1)))+was(x.Remove(3, text(300, 1), text(300, 2))), "falsefalse")
	told("k", `["\x00" "b" "ka" "\xff"]`)
	told("kk", `["a" "c"]`)
	told("", `["" "ka"]`)
	told("\x01k", `["b"]`)
	want(t, "another table's", items(x.Items(4, "k")), `["\x004" "4" "a4" "b4" "ka4" "\xff4"]`)
	x.Rollback()
	x = begun(t, s)
	look()
}

// P12.3: how long a key and an item may be together, and what pair an item is.
func TestItemSizes(t *testing.T) {
	s := opened(t, disk.New(200))
	x := begun(t, s)
	m := model{}
	for _, sizes := range [][2]int{{0, 126}, {126, 0}, {1, 125}, {125, 1}, {60, 66}, {0, 127}, {127, 0}, {128, 0}, {0, 256}, {256, 0}, {257, 0}, {255, 3}, {70000, 0}, {0, 70000}} {
		key, item := text(sizes[0], 1), text(sizes[1], 2)
		want(t, fmt.Sprint("Add of ", sizes), x.Add(3, key, item), api.ErrSize)
		want(t, fmt.Sprint("Items of ", sizes), items(x.Items(3, key)), `[]`)
	}
	holds(t, "nothing has changed", x, m)
	for _, sizes := range [][2]int{{0, 125}, {125, 0}, {1, 124}, {124, 1}, {60, 65}, {0, 0}} {
		key, item := text(sizes[0], 1), text(sizes[1], 2)
		add(t, x, m, 3, key, item)
		want(t, fmt.Sprint("Get of ", sizes), got(x.Get(3, string([]byte{byte(sizes[0])})+key+item)), `""`)
	}
	holds(t, "the longest", x, m)
	want(t, "Items of a key of 125 bytes", items(x.Items(3, text(125, 1))), `[""]`)
	want(t, "Items of no key", items(x.Items(3, "")), fmt.Sprintf("%q", []string{"", text(125, 2)}))
	want(t, "Remove of 125 bytes", was(x.Remove(3, "", text(125, 2)))+was(x.Remove(3, text(125, 1), "")), "truetrue")
	x.Rollback()

	x = begun(t, s)
	x.Add(3, "key", "item")
	want(t, "the pair of an item", many(x.Range(3, "", "", 9)), `"\x03keyitem"=""`)
	want(t, "no items of other tables", many(x.Range(2, "", "", 9))+many(x.Range(4, "", "", 9)), "")
}

// P12.4: Commit with changes, without any, and with a change that takes back another one.
func TestCommit(t *testing.T) {
	d := disk.New(100)
	s := opened(t, d)
	m := model{}
	x := begun(t, s)
	ops := d.Ops()
	commit(t, x)
	want(t, "without changes nothing is written", fmt.Sprint(d.Ops()-ops, s.Tx()), "0 0")
	for i := range 5 {
		x = begun(t, s)
		put(t, x, m, 1, fmt.Sprint("key", i), text(i*150, i))
		add(t, x, m, 3, "k", fmt.Sprint("item", i))
		commit(t, x)
		want(t, "Tx", s.Tx(), i+1)
		holds(t, "opened anew", begun(t, opened(t, d.Copy())), m)
	}
	x = begun(t, s)
	x.Get(1, "key1")
	x.Delete(1, "none")
	x.Clear(9, "")
	x.Remove(3, "k", "none")
	x.Put(1, text(128, 1), "")
	ops = d.Ops()
	commit(t, x)
	want(t, "calls that change nothing are no changes", fmt.Sprint(d.Ops()-ops, s.Tx()), "0 5")
}

// P12.4: behind Rollback nothing has changed, be the changes few or many.
func TestRollback(t *testing.T) {
	s, d, m := filled(t)
	pages := s.Pages()
	x := begun(t, s)
	x.Rollback()
	for round := range 3 {
		x := begun(t, s)
		changed := maps.Clone(m)
		rewritten(t, x, changed)
		holds(t, "with changes", x, changed)
		ops := d.Ops()
		x.Rollback()
		want(t, "nothing is written", d.Ops(), ops)
		want(t, "Tx and Pages", fmt.Sprint(s.Tx(), s.Pages()), fmt.Sprint(1, pages))
		y := begun(t, s)
		holds(t, fmt.Sprint("rolled back, round ", round), y, m)
		y.Rollback()
	}
	holds(t, "opened anew", begun(t, opened(t, d)), m)
}

// P12.2: each operation of each call failing: the error is told beside nothing, the transaction is still open; rolled back, all is as it was.
func TestCallsFail(t *testing.T) {
	s, d, m := filled(t)
	x := begun(t, s)
	put(t, x, m, 1, "a", "1")
	add(t, x, m, 3, "k", "i")
	commit(t, x)
	begunCall := func(name string) (*Tx, func() string) {
		x := begun(t, s)
		return x, calls(x)[name]
	}
	for name := range calls(nil) {
		x, call := begunCall(name)
		before := d.Ops()
		right := call()
		ops := d.Ops() - before
		x.Rollback()
		if name != "Commit" && !strings.Contains(name, " of too ") && name != "Range of none" {
			want(t, name+" has operations", ops > 0, true)
		}
		for op := range ops {
			what := fmt.Sprintf("%s, operation %d", name, op)
			x, call := begunCall(name)
			d.Fail(op + 1)
			want(t, what+" failing", call(), "error 14")
			want(t, what+", another one", begin(s), "error 13")
			x.Rollback()
			x, call = begunCall(name)
			d.Arm(op)
			want(t, what+", no power", call(), "error 15")
			d.Crash()
			x.Rollback()
			x, call = begunCall(name)
			if op%20 == 0 {
				holds(t, what+", rolled back", x, m)
			}
			want(t, what+", with no fault any more", call(), right)
			x.Rollback()
		}
	}
	holds(t, "in the end", begun(t, s), m)
}

// P12.2: a call that asks, or puts or deletes one pair, has changed nothing if it fails: the transaction may go on.
func TestGoesOn(t *testing.T) {
	s, d, m := filled(t)
	x := begun(t, s)
	seen := 0
	for i, k := range m.keys(1) {
		d.Fail(1)
		if told := was(x.Delete(1, k)); told == "true" {
			delete(m, at(1, k))
		} else {
			want(t, "Delete", told, "error 14")
			seen++
		}
		d.Fail(1 + i%3)
		if e := x.Put(1, k, text(i*10, 1)); e == api.OK {
			m[at(1, k)] = text(i*10, 1)
		}
		d.Clear()
		put(t, x, m, 2, k, "2")
	}
	want(t, "some have failed", seen > 5, true)
	holds(t, "with changes", x, m)
	commit(t, x)
	holds(t, "committed", begun(t, s), m)
}

// P12.2 and P12.4: no room: Put, Add and Clear tell ErrFull; rolled back, all is as it was; with more room it goes on.
func TestFull(t *testing.T) {
	s, d, m := filled(t)
	for _, room := range []int{0, 1, 2} {
		d.Limit(d.Used() + room)
		for name, change := range map[string]func(x *Tx) api.Errno{
			"Put":   func(x *Tx) api.Errno { return x.Put(2, "new", text(8000, 1)) },
			"Add":   func(x *Tx) api.Errno { return x.Add(3, "k1", "new") },
			"Clear": func(x *Tx) api.Errno { _, e := x.Clear(1, "key0"); return e },
		} {
			x := begun(t, s)
			want(t, fmt.Sprintf("%s, %d pages", name, room), change(x), api.ErrFull)
			x.Rollback()
			x = begun(t, s)
			holds(t, fmt.Sprintf("%s, %d pages, rolled back", name, room), x, m)
			x.Rollback()
		}
	}
	d.Limit(600)
	x := begun(t, s)
	want(t, "Clear with more room", count(x.Clear(1, "key0")), fmt.Sprint(m.cleared(1, "key0")))
	put(t, x, m, 2, "new", text(8000, 1))
	commit(t, x)
	holds(t, "with more room", begun(t, s), m)
}

// P12.5: tables do not see each other: the same keys stand in all of them, and are changed in one.
func TestTables(t *testing.T) {
	s := opened(t, disk.New(600))
	x := begun(t, s)
	m := model{}
	keys := []string{"", "a", "\x00", "\xff", "ab"}
	for table := range 256 {
		for _, k := range keys {
			put(t, x, m, byte(table), k, fmt.Sprint(table))
		}
	}
	commit(t, x)
	for _, table := range []byte{0, 1, 2, 77, 127, 128, 254, 255} {
		x := begun(t, s)
		put(t, x, m, table, "a", "other")
		put(t, x, m, table, "new", text(3000, 1))
		want(t, "Delete", was(x.Delete(table, "\xff")), "true")
		delete(m, at(table, "\xff"))
		add(t, x, m, table, "a", "b")
		holds(t, fmt.Sprint("changed in table ", table), x, m)
		want(t, "Clear", count(x.Clear(table, "")), fmt.Sprint(m.cleared(table, "")))
		holds(t, fmt.Sprint("cleared table ", table), x, m)
		commit(t, x)
		x = begun(t, s)
		holds(t, "committed", x, m)
		x.Rollback()
	}
}

// A tree that others have filled may have the key of no bytes: it stands in no table.
func TestKeyOfNoTable(t *testing.T) {
	d := disk.New(20)
	p, _ := pager.Open(d)
	u, _ := tree.Open(p)
	u.Put("", "nothing")
	u.Put("\x05", "five")
	u.Commit()
	x := begun(t, opened(t, d))
	for table := range 256 {
		own := map[bool]string{true: `""="five"`, false: "none"}[table == 5]
		want(t, fmt.Sprint("Seek in table ", table), pair(x.Seek(byte(table), "")), own)
		want(t, fmt.Sprint("Last of table ", table), pair(x.Last(byte(table))), own)
		want(t, fmt.Sprint("Before in table ", table), pair(x.Before(byte(table), "")), "none")
	}
}

// A nil store's calls; none of a zero one's, or of its transaction's, panics.
func TestNil(t *testing.T) {
	var s *Store
	want(t, "Begin", begin(s), "error 1")
	want(t, "Reopen", s.Reopen(), api.ErrArg)
	want(t, "Tx and Pages", fmt.Sprint(s.Tx(), s.Pages()), "0 0")

	zero := &Store{}
	zero.Tx()
	zero.Pages()
	zero.Reopen()
	x, _ := zero.Begin()
	for _, call := range calls(x) {
		call()
	}
	x.Rollback()
	zero.Begin()
}
