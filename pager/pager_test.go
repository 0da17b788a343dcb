package pager

import (
	"fmt"
	"math"
	"slices"
	"strings"
	"testing"

	"loess/api"
	"loess/disk"
	"loess/page"
)

func want[T comparable](t *testing.T, what string, got, want T) {
	t.Helper()
	if got != want {
		t.Errorf("%s: %.300q, want %.300q", what, fmt.Sprint(got), fmt.Sprint(want))
	}
}

// told is errors by their numbers.
func told(l ...api.Errno) string {
	all := make([]string, len(l))
	for i, e := range l {
		all[i] = fmt.Sprint(int(e))
	}
	return strings.Join(all, " ")
}

func open(t *testing.T, d *disk.Disk) *Pager {
	t.Helper()
	p, e := Open(d)
	if e != api.OK || p == nil {
		t.Fatalf("Open: error %d", e)
	}
	return p
}

// alloc is the pages, or the errors (as e and the number), that so many calls of Alloc tell.
func alloc(p *Pager, times int) string {
	var all []string
	for range times {
		n, e := p.Alloc()
		text := fmt.Sprint(n)
		if e != api.OK {
			text = fmt.Sprintf("e%d", e)
			if n != 0 {
				text = fmt.Sprintf("page %d with error %d", n, e)
			}
		}
		all = append(all, text)
	}
	return strings.Join(all, " ")
}

func read(p *Pager, n int) string {
	kind, body, e := p.Read(n)
	return fmt.Sprintf("%d %.40q %d", kind, body, e)
}

// stands is all that a pager tells of itself: the meta, how many pages are spare, how many Reads there were, whether it is broken.
func stands(p *Pager) string {
	return fmt.Sprint(p.Meta(), p.Spare(), p.Reads(), p.Broken())
}

func metaPage(m api.Meta) string {
	text, e := page.Meta(m)
	if e != api.OK {
		panic("no meta")
	}
	return text
}

func sealed(kind byte, body string) string {
	text, e := page.Seal(kind, body)
	if e != api.OK {
		panic("no body")
	}
	return text
}

// laid is a device of so many pages, with texts on pages 0 and 1 that last; empty: never written.
func laid(pages int, zero, one string) *disk.Disk {
	d := disk.New(pages)
	for n, text := range []string{zero, one} {
		if text != "" {
			d.Write(n, text)
		}
	}
	d.Sync()
	return d
}

// some is a pager whose state has pages 2, 4 and 5 of 7; 3 and 6 are spare; its device has 10 pages.
func some(t *testing.T) (*Pager, *disk.Disk) {
	t.Helper()
	d := disk.New(10)
	p := open(t, d)
	want(t, "Alloc", alloc(p, 5), "2 3 4 5 6")
	for n := 2; n <= 6; n++ {
		want(t, "Write", p.Write(n, 'L', fmt.Sprint("page ", n)), api.OK)
	}
	want(t, "Free", p.Free(3, 6), 2)
	want(t, "Commit", p.Commit(2, 3), api.OK)
	want(t, "it stands", stands(p), "{1 2 3 7} 2 0 false")
	return p, d
}

// broken is such a pager, with pages 3 and 6 new and 4 freed, whose commit has failed at its first Sync.
func broken(t *testing.T) (*Pager, *disk.Disk) {
	t.Helper()
	p, d := some(t)
	want(t, "Alloc", alloc(p, 2), "3 6")
	want(t, "Free", p.Free(4), 1)
	d.Fail(1)
	want(t, "Commit", p.Commit(3, 3), api.ErrDisk)
	d.Clear()
	want(t, "it stands", stands(p), "{1 2 3 7} 0 0 true")
	return p, d
}

// seen is the text of a page, without an operation of the device, whatever its faults are.
func seen(d *disk.Disk, n int) string {
	c := d.Copy()
	c.Limit(api.MaxPages)
	c.Clear()
	text, e := c.Read(n)
	if e != api.OK {
		panic("no power")
	}
	return text
}

func numbers() []int {
	return []int{math.MinInt, math.MinInt32, -2, -1, 0, 1, 2, 3, 10, 11, 65535, 65536, math.MaxInt32, 1 << 32, 1<<32 + 2, math.MaxInt - 1, math.MaxInt}
}

// The chapter's examples.
func TestExamples(t *testing.T) {
	p, e := Open(disk.New(10))
	want(t, "Open", e, api.OK)
	want(t, "Write ahead of Alloc", p.Write(2, 'L', "x"), api.ErrArg)
	want(t, "Alloc", alloc(p, 1), "2")
	want(t, "Write, Commit", told(p.Write(2, 'L', "x"), p.Commit(2, 1)), "0 0")
	want(t, "Meta", p.Meta(), api.Meta{Tx: 1, Root: 2, Entries: 1, Pages: 3})

	want(t, "Alloc", alloc(p, 1), "3")
	want(t, "Free", p.Free(2), 1)
	want(t, "Alloc behind Free", alloc(p, 1), "4")
	want(t, "Commit", p.Commit(3, 1), api.OK)
	want(t, "Alloc behind Commit", alloc(p, 1), "2")
}

// P10.1: Open of nothing, and of devices with too few pages, which are never asked anything.
func TestOpenOfTooLittle(t *testing.T) {
	p, e := Open(nil)
	want(t, "nil", fmt.Sprint(p == nil, int(e)), "true 1")
	for pages, tells := range []string{"true 16", "true 16", "false 0"} {
		d := disk.New(pages)
		p, e := Open(d)
		want(t, fmt.Sprintf("%d pages", pages), fmt.Sprint(p == nil, int(e)), tells)
		want(t, "operations", d.Ops() > 0, pages == 2)
		d = disk.New(pages)
		d.Arm(0)
		d.Sync()
		p, e = Open(d)
		want(t, fmt.Sprintf("%d pages without power", pages), fmt.Sprint(p == nil, int(e)), []string{"true 16", "true 16", "true 15"}[pages])
	}
	p, e = Open(&disk.Disk{})
	want(t, "a zero device", fmt.Sprint(p == nil, int(e)), "true 16")
	d := disk.New(5)
	d.Limit(1)
	p, e = Open(d)
	want(t, "a device that has become too small", fmt.Sprint(p == nil, int(e)), "true 16")
	p = open(t, disk.New(2))
	want(t, "2 pages", stands(p)+" "+alloc(p, 2), "{0 0 0 2} 0 0 false e16 e16")
	want(t, "Commit with 2 pages", p.Commit(0, 0), api.OK)
	want(t, "2 pages behind Commit", stands(p), "{1 0 0 2} 0 0 false")
}

// P10.1: Open of zeros writes the first meta to page 0, and nothing else; it lasts.
func TestOpenOfZeros(t *testing.T) {
	for _, zeros := range []string{"", strings.Repeat("\x00", 1024)} {
		d := laid(4, zeros, zeros)
		d.Write(2, sealed('L', "what stood there"))
		d.Sync()
		ops := d.Ops()
		p := open(t, d)
		want(t, "it stands", stands(p), "{0 0 0 2} 0 0 false")
		want(t, "operations", d.Ops()-ops, 4)
		d.Crash()
		want(t, "page 0", seen(d, 0), metaPage(api.Meta{Pages: 2}))
		want(t, "page 1", seen(d, 1), strings.Repeat("\x00", 1024))
		want(t, "page 2", seen(d, 2), sealed('L', "what stood there"))
		want(t, "opened anew", stands(open(t, d)), "{0 0 0 2} 0 0 false")
	}
}

// P10.1: which meta counts: one good one of two, the newer of two good ones, none.
func TestOpenOfMetas(t *testing.T) {
	four, five := metaPage(api.Meta{Tx: 4, Root: 7, Entries: 9, Pages: 12}), metaPage(api.Meta{Tx: 5, Root: 3, Entries: 8, Pages: 13})
	other := metaPage(api.Meta{Tx: 4, Root: 1, Entries: 1, Pages: 14})
	junk, torn, leaf := "x"+strings.Repeat("\x00", 1023), four[:256]+strings.Repeat("y", 768), sealed('L', four[11:43])
	const is4, is5, is, none = "{4 7 9 12} 0 0 false", "{5 3 8 13} 0 0 false", "{4 1 1 14} 0 0 false", "error 17"
	for i, c := range []struct{ zero, one, tells string }{
		{four, "", is4}, {four, junk, is4}, {four, torn, is4}, {four, leaf, is4},
		{"", four, is4}, {junk, four, is4}, {torn, four, is4}, {leaf, four, is4},
		{five, "", is5}, {"", five, is5},
		{four, five, is5}, {five, four, is5}, {four, other, is4}, {other, four, is}, {four, four, is4},
		{junk, "", none}, {"", junk, none}, {junk, junk, none}, {torn, "", none}, {"", torn, none}, {torn, junk, none}, {leaf, leaf, none}, {leaf, "", none},
	} {
		d := laid(20, c.zero, c.one)
		ops, zero, one := d.Ops(), seen(d, 0), seen(d, 1)
		p, e := Open(d)
		what := fmt.Sprintf("case %d", i)
		if e != api.OK {
			want(t, what, fmt.Sprint("error ", int(e)), c.tells)
			want(t, what+", a pager", p == nil, true)
		} else {
			want(t, what, stands(p), c.tells)
			want(t, what+", operations", d.Ops()-ops, 3)
		}
		want(t, what+", page 0 and 1", seen(d, 0)+seen(d, 1), zero+one)
	}
}

// P10.1 and P10.5: what counts lasts behind Open, whoever wrote it.
func TestOpenSyncs(t *testing.T) {
	d := laid(20, metaPage(api.Meta{Tx: 4, Pages: 12}), "")
	d.Write(1, metaPage(api.Meta{Tx: 5, Pages: 13}))
	d.Write(7, sealed('L', "x"))
	want(t, "opened", open(t, d).Meta().Tx, 5)
	d.Crash()
	p := open(t, d)
	want(t, "opened behind a crash", p.Meta().Tx, 5)
	want(t, "a page", read(p, 7), `76 "x" 0`)
}

// P10.1: each operation of Open failing, and the power gone at each: the error is told, nothing else; what counts is found later.
func TestOpenFails(t *testing.T) {
	stored := func() *disk.Disk {
		return laid(20, metaPage(api.Meta{Tx: 4, Root: 7, Entries: 9, Pages: 12}), metaPage(api.Meta{Tx: 3, Pages: 12}))
	}
	for _, c := range []struct {
		what string
		make func() *disk.Disk
		ops  int
		is   string
	}{
		{"of zeros", func() *disk.Disk { return disk.New(20) }, 4, "{0 0 0 2} 0 0 false"},
		{"of two metas", stored, 3, "{4 7 9 12} 0 0 false"},
	} {
		for op := range c.ops {
			what := fmt.Sprintf("%s, operation %d", c.what, op)
			d := c.make()
			d.Fail(op + 1)
			p, e := Open(d)
			want(t, what+" failing", fmt.Sprint(p == nil, int(e)), "true 14")
			want(t, what+" failed, opened anew", stands(open(t, d)), c.is)
			for bits := range 16 {
				d = c.make()
				d.Arm(op)
				p, e = Open(d)
				want(t, what+" without power", fmt.Sprint(p == nil, int(e)), "true 15")
				p, e = Open(d)
				want(t, what+" without power, once more", fmt.Sprint(p == nil, int(e)), "true 15")
				d.Crash(bits, bits>>1, bits>>2, bits>>3)
				want(t, what+" cut off, opened anew", stands(open(t, d)), c.is)
			}
		}
		d := c.make()
		d.Fail(c.ops + 1)
		want(t, c.what+", no more operations", stands(open(t, d)), c.is)
	}
	d := laid(20, "", "x"+strings.Repeat("\x00", 1023))
	d.Fail(3)
	p, e := Open(d)
	want(t, "ErrStore ahead of Sync's error", fmt.Sprint(p == nil, int(e)), "true 17")
}

// P10.2: which pages are spare behind Use, and how many.
func TestUse(t *testing.T) {
	for _, c := range []struct {
		pages int // the meta's
		use   []int
		spare string
	}{
		{8, nil, "2 3 4 5 6 7"},
		{8, []int{}, "2 3 4 5 6 7"},
		{8, []int{2, 3, 4, 5, 6, 7}, ""},
		{8, []int{7, 6, 5, 4, 3, 2}, ""},
		{8, []int{3, 5}, "2 4 6 7"},
		{8, []int{5, 3}, "2 4 6 7"},
		{8, []int{5, 3, 5, 5, 3}, "2 4 6 7"},
		{8, []int{2}, "3 4 5 6 7"},
		{8, []int{7}, "2 3 4 5 6"},
		{8, []int{2, 7, 2, 7}, "3 4 5 6"},
		{8, []int{4, 5, 6}, "2 3 7"},
		{8, []int{0, 1}, "2 3 4 5 6 7"},
		{8, []int{8, 9, 10}, "2 3 4 5 6 7"},
		{8, []int{8, 1, 7, 0}, "2 3 4 5 6"},
		{8, numbers(), "4 5 6 7"},
		{3, nil, "2"},
		{3, []int{2}, ""},
		{3, []int{3}, "2"},
		{2, nil, ""},
		{2, []int{2, 3}, ""},
		{1, nil, ""},
		{0, []int{0, 2}, ""},
	} {
		what := fmt.Sprintf("Use(%v) of %d pages", c.use, c.pages)
		p := open(t, laid(30, metaPage(api.Meta{Tx: 2, Pages: c.pages}), ""))
		spare := strings.Fields(c.spare)
		handed := slices.Clone(c.use)
		want(t, what, p.Use(c.use...), len(spare))
		want(t, what+", Spare", p.Spare(), len(spare))
		want(t, what+", what was handed in", slices.Equal(c.use, handed), true)
		for i := range c.use {
			c.use[i] = 6
		}
		want(t, what+", Alloc", alloc(p, len(spare)), c.spare)
		want(t, what+", Spare behind Alloc", p.Spare(), 0)
		want(t, what+", what was never used", alloc(p, 1), fmt.Sprint(max(c.pages, 2)))
	}
}

// P10.2: Use counts once, ahead of the first Alloc, Free, Commit or Rollback, whatever these tell.
func TestUseOnce(t *testing.T) {
	for _, c := range []struct {
		what  string
		call  func(p *Pager, d *disk.Disk)
		tells string // Use(3), Use(), Spare
	}{
		{"nothing", func(p *Pager, d *disk.Disk) {}, "4 0 4"},
		{"Use", func(p *Pager, d *disk.Disk) { p.Use(2, 3, 4) }, "0 0 2"},
		{"Use of nothing", func(p *Pager, d *disk.Disk) { p.Use() }, "0 0 5"},
		{"Use of all", func(p *Pager, d *disk.Disk) { p.Use(2, 3, 4, 5, 6) }, "0 0 0"},
		{"Alloc", func(p *Pager, d *disk.Disk) { p.Alloc() }, "0 0 0"},
		{"Alloc that is full", func(p *Pager, d *disk.Disk) { d.Limit(2); p.Alloc() }, "0 0 0"},
		{"Free", func(p *Pager, d *disk.Disk) { p.Free(3) }, "0 0 0"},
		{"Free of nothing", func(p *Pager, d *disk.Disk) { p.Free() }, "0 0 0"},
		{"Commit", func(p *Pager, d *disk.Disk) { p.Commit(1, 1) }, "0 0 0"},
		{"Commit below 0", func(p *Pager, d *disk.Disk) { p.Commit(-1, 1) }, "0 0 0"},
		{"Commit that fails", func(p *Pager, d *disk.Disk) { d.Fail(1); p.Commit(1, 1) }, "0 0 0"},
		{"Rollback", func(p *Pager, d *disk.Disk) { p.Rollback() }, "0 0 0"},
		{"Use, Rollback", func(p *Pager, d *disk.Disk) { p.Use(2); p.Rollback() }, "0 0 4"},
		{"Use, Free, Commit", func(p *Pager, d *disk.Disk) { p.Use(2); p.Free(2); p.Commit(1, 1) }, "0 0 5"},
		{"what is no change", func(p *Pager, d *disk.Disk) {
			p.Meta()
			p.Spare()
			p.Reads()
			p.Broken()
			p.Read(0)
			p.Read(-1)
			p.Write(2, 'L', "x")
		}, "4 0 4"},
	} {
		d := laid(30, metaPage(api.Meta{Tx: 2, Pages: 7}), "")
		p := open(t, d)
		c.call(p, d)
		want(t, "Use behind "+c.what, fmt.Sprint(p.Use(3), p.Use(), p.Spare()), c.tells)
	}
}

// P10.2, P10.3 and P10.4: Spare and Reads behind each call.
func TestSpareAndReads(t *testing.T) {
	d := disk.New(10)
	p := open(t, d)
	step := func(what, spareReads string) {
		t.Helper()
		want(t, what, fmt.Sprint(p.Spare(), p.Reads()), spareReads)
	}
	step("Open", "0 0")
	p.Alloc()
	step("Alloc of a page never used", "0 0")
	p.Write(2, 'L', "x")
	step("Write", "0 0")
	p.Read(2)
	step("Read of a new page", "0 1")
	p.Alloc()
	p.Free(3)
	step("Free of a new page", "1 1")
	p.Read(3)
	step("Read of a page that was never sealed", "1 1")
	p.Commit(-1, 0)
	step("Commit below 0", "1 1")
	p.Commit(2, 1)
	step("Commit", "1 1")
	p.Meta()
	p.Broken()
	step("Meta and Broken", "1 1")
	p.Alloc()
	step("Alloc of a spare page", "0 1")
	p.Free(2)
	step("Free of a page of the state", "0 1")
	p.Read(2)
	p.Read(0)
	step("Read of a freed page and of a meta", "0 3")
	p.Read(10)
	p.Read(-1)
	step("Read of pages that aren't there", "0 3")
	d.Fail(1)
	p.Read(2)
	step("Read that fails", "0 3")
	p.Rollback()
	step("Rollback", "1 3")
	p.Free(2)
	p.Commit(0, 0)
	step("Commit with a freed page", "2 3")
	p.Use(2)
	step("Use", "2 3")
	p.Alloc()
	d.Fail(1)
	p.Commit(1, 1)
	step("Commit that fails", "1 3")
	p.Alloc()
	p.Write(2, 'L', "x")
	step("Alloc and Write, broken", "1 3")
	p.Read(0)
	step("Read, broken", "1 4")
	p.Rollback()
	step("Rollback, broken", "2 4")
	p = open(t, d)
	step("opened anew", "0 0")
}

// P10.3: Alloc tells the least spare page, then those that were never used, one by one, then ErrFull.
func TestAlloc(t *testing.T) {
	p, d := some(t)
	want(t, "Alloc", alloc(p, 7), "3 6 7 8 9 e16 e16")
	want(t, "it stands", stands(p), "{1 2 3 7} 0 0 false")
	want(t, "Free of new pages", p.Free(9, 6, 8), 3)
	want(t, "Alloc of those", alloc(p, 4), "6 8 9 e16")
	d.Limit(11)
	want(t, "Alloc with more room", alloc(p, 2), "10 e16")
	d.Limit(3)
	want(t, "Alloc with less room", alloc(p, 1), "e16")
	p.Free(10)
	want(t, "Alloc of a spare page that the device has no more", alloc(p, 2), "10 e16")
	d.Limit(2)
	p.Rollback()
	want(t, "Alloc of spare pages that the device has no more", alloc(p, 3), "3 6 e16")

	p, _ = broken(t)
	want(t, "Alloc of a broken pager", alloc(p, 2), "e13 e13")
	p.Rollback()
	want(t, "Alloc of a broken pager that was rolled back", alloc(p, 1), "e13")
	p, d = broken(t)
	d.Limit(2)
	want(t, "Alloc of a broken pager without room", alloc(p, 1), "e13")
	p = open(t, laid(2, metaPage(api.Meta{Tx: 1, Pages: 30}), ""))
	want(t, "Alloc of a store that the device is too small for", alloc(p, 2), "e16 e16")
}

// P10.3: Alloc of pages that were committed as spare, in their order, in whatever order they were freed.
func TestAllocLeast(t *testing.T) {
	p := open(t, disk.New(40))
	alloc(p, 30)
	want(t, "Commit", p.Commit(0, 0), api.OK)
	want(t, "Free", p.Free(20, 5, 31, 11, 6, 2), 6)
	want(t, "Alloc ahead of Commit", alloc(p, 2), "32 33")
	want(t, "Commit", p.Commit(0, 0), api.OK)
	want(t, "Alloc", alloc(p, 3), "2 5 6")
	want(t, "Free", p.Free(5, 30), 2)
	want(t, "Alloc, and one that was freed", alloc(p, 4), "5 11 20 31")
	want(t, "Alloc of a page never used", alloc(p, 1), "34")
}

// P10.3: Alloc asks no operation of the device, and works without power.
func TestAllocAsksNothing(t *testing.T) {
	p, d := some(t)
	ops := d.Ops()
	d.Arm(0)
	d.Sync()
	want(t, "Alloc without power", alloc(p, 3), "3 6 7")
	want(t, "Free without power", p.Free(2, 3), 2)
	p.Rollback()
	want(t, "it stands", stands(p), "{1 2 3 7} 2 0 false")
	want(t, "operations", d.Ops(), ops)
}

// P10.3: which pages may be written: new ones, and no others.
func TestWriteOfPages(t *testing.T) {
	p, d := some(t)
	want(t, "Alloc", alloc(p, 3), "3 6 7")
	p.Free(4, 6)
	for _, n := range append(numbers(), 4, 5, 6, 7, 8, 9) {
		e := api.ErrArg
		if n == 3 || n == 7 {
			e = api.OK
		}
		old := ""
		if n >= 0 && n < 10 {
			old = seen(d, n)
		}
		want(t, fmt.Sprintf("Write of page %d", n), p.Write(n, 'B', "new"), e)
		if e == api.OK {
			old = sealed('B', "new")
		}
		if n >= 0 && n < 10 {
			want(t, fmt.Sprintf("page %d", n), seen(d, n), old)
		}
	}
	want(t, "Alloc", alloc(p, 1), "6")
	want(t, "Write of a page that is new again", p.Write(6, 'B', ""), api.OK)
	want(t, "Commit", p.Commit(0, 0), api.OK)
	want(t, "Write of pages that were committed", told(p.Write(3, 'B', "late"), p.Write(6, 'B', "late"), p.Write(7, 'B', "late"), p.Write(4, 'B', "late")), "1 1 1 1")
	want(t, "Alloc", alloc(p, 1), "4")
	p.Rollback()
	want(t, "Write of a page that was rolled back", p.Write(4, 'B', "late"), api.ErrArg)
	want(t, "pages", seen(d, 3)+seen(d, 4), sealed('B', "new")+sealed('L', "page 4"))
	want(t, "Write of a page of another pager", open(t, d).Write(4, 'B', "x"), api.ErrArg)
}

// P10.3: what Write writes, of all sizes at the edges and kinds; written twice the last one is there. It is one operation, and lasts from the commit on.
func TestWriteOfBodies(t *testing.T) {
	p, d := some(t)
	want(t, "Alloc", alloc(p, 1), "3")
	for _, size := range []int{0, 1, 100, 1012, 1013} {
		for _, kind := range []byte{0, 'L', 'M', 255} {
			body, ops := strings.Repeat("\xfez", 600)[:size], d.Ops()
			want(t, "Write", p.Write(3, kind, body), api.OK)
			want(t, "operations", d.Ops(), ops+1)
			want(t, "the page", seen(d, 3), sealed(kind, body))
		}
	}
	old := seen(d, 3)
	for _, size := range []int{1014, 1015, 1024, 65536, 1 << 20} {
		ops := d.Ops()
		want(t, "Write of a body too long", p.Write(3, 'L', strings.Repeat("z", size)), api.ErrSize)
		want(t, "operations", d.Ops(), ops)
		want(t, "the page", seen(d, 3), old)
		want(t, "Write of a body too long to a page that is not new", p.Write(2, 'L', strings.Repeat("z", size)), api.ErrArg)
	}
	d.Crash()
	want(t, "the page behind a crash", seen(d, 3), sealed('L', "page 3"))
}

// P10.3: Write tells errors of the device, does nothing then, and leaves the page new; a broken pager writes nothing.
func TestWriteFails(t *testing.T) {
	p, d := some(t)
	want(t, "Alloc", alloc(p, 1), "3")
	d.Fail(1)
	want(t, "Write that fails, and once more", told(p.Write(3, 'L', "x"), p.Write(3, 'L', "y")), "14 0")
	d.Fail(1)
	want(t, "Write that fails", p.Write(3, 'L', "z"), api.ErrDisk)
	want(t, "the page", seen(d, 3), sealed('L', "y"))
	want(t, "Broken", p.Broken(), false)
	d.Limit(3)
	want(t, "Write of a new page that the device has no more", p.Write(3, 'L', "z"), api.ErrArg)
	d.Limit(10)
	d.Arm(0)
	want(t, "Write without power", told(p.Write(3, 'L', strings.Repeat("z", 1014)), p.Write(2, 'L', "z"), p.Write(3, 'L', "z"), p.Write(3, 'L', "z"), p.Write(2, 'L', "z")), "11 1 15 15 1")
	want(t, "Broken", p.Broken(), false)

	p, d = broken(t)
	ops := d.Ops()
	want(t, "Write of a broken pager", told(p.Write(3, 'L', "z"), p.Write(2, 'L', "z"), p.Write(-1, 'L', "z"), p.Write(3, 'L', strings.Repeat("z", 1014))), "13 13 13 13")
	want(t, "operations", d.Ops(), ops)
}

// P10.3: Read of pages that were sealed, that were not, that aren't there; its errors; what it counts.
func TestRead(t *testing.T) {
	p, d := some(t)
	want(t, "Read", read(p, 4), `76 "page 4" 0`)
	want(t, "Read of a spare page", read(p, 3), `76 "page 3" 0`)
	kind, body, e := p.Read(1)
	want(t, "Read of a meta", fmt.Sprint(kind, len(body), int(e)), "77 32 0")
	want(t, "Reads", p.Reads(), 3)
	want(t, "Read of a page that was never written", read(p, 9), `0 "" 17`)
	d.Write(7, strings.Repeat("x", 1024))
	want(t, "Read of a page that was never sealed", read(p, 7), `0 "" 17`)
	d.Write(7, sealed('L', "abc")[:1023]+"x")
	want(t, "Read of a page with a wrong byte", read(p, 7), `0 "" 17`)
	for _, n := range append(numbers(), 10) {
		if n < 0 || n >= 10 {
			want(t, fmt.Sprintf("Read of page %d", n), read(p, n), `0 "" 1`)
		}
	}
	d.Fail(1, 2)
	want(t, "Read that fails", read(p, 4)+read(p, 9)+read(p, 4), `0 "" 140 "" 1476 "page 4" 0`)
	want(t, "Reads", p.Reads(), 4)
	alloc(p, 1)
	p.Write(3, 255, strings.Repeat("\xff", 1013))
	kind, body, e = p.Read(3)
	want(t, "Read of a new page", fmt.Sprint(kind, body == strings.Repeat("\xff", 1013), int(e)), "255 true 0")
	d.Arm(0)
	want(t, "Read without power", read(p, 4)+read(p, -1), `0 "" 150 "" 15`)
	want(t, "Reads", p.Reads(), 5)
	p, _ = broken(t)
	want(t, "Read of a broken pager", read(p, 4), `76 "page 4" 0`)
	want(t, "Reads", p.Reads(), 1)
}

// P10.3: Free of one page, whatever it is: how many, and when it is spare.
func TestFreeOfPages(t *testing.T) {
	for _, c := range []struct {
		page, count, now, committed int
	}{
		{2, 1, 0, 1}, {4, 1, 0, 1}, {5, 1, 0, 1}, // the state's
		{3, 1, 1, 1}, {6, 1, 1, 1}, {7, 1, 1, 1}, // new ones
		{8, 0, 0, 0}, {9, 0, 0, 0}, {10, 0, 0, 0}, // never used
		{0, 0, 0, 0}, {1, 0, 0, 0}, {-1, 0, 0, 0}, {math.MinInt, 0, 0, 0}, {math.MaxInt, 0, 0, 0}, {1<<32 + 2, 0, 0, 0},
	} {
		p, _ := some(t)
		want(t, "Alloc", alloc(p, 3), "3 6 7")
		what := fmt.Sprintf("Free(%d)", c.page)
		want(t, what, p.Free(c.page), c.count)
		want(t, what+", Spare", p.Spare(), c.now)
		want(t, what+", once more", p.Free(c.page), 0)
		want(t, what+", Spare once more", p.Spare(), c.now)
		want(t, "Commit", p.Commit(0, 0), api.OK)
		want(t, what+", Spare behind Commit", p.Spare(), c.committed)
		want(t, what+", once more behind Commit", p.Free(c.page), map[bool]int{true: 1}[c.page >= 2 && c.page <= 7 && c.committed == 0])
		if c.committed == 1 {
			want(t, what+", Alloc", alloc(p, 1), fmt.Sprint(c.page))
		}
		want(t, what+", never used", alloc(p, 1), "8")
	}
	p, _ := some(t)
	want(t, "Free of spare pages", p.Free(3, 6), 0)
	want(t, "Commit", p.Commit(0, 0), api.OK)
	want(t, "Spare", p.Spare(), 2)
}

// P10.3: Free of several pages, of one twice in one call and in two, of none; each one counts for itself.
func TestFreeOfSeveral(t *testing.T) {
	p, _ := some(t)
	want(t, "Alloc", alloc(p, 3), "3 6 7")
	want(t, "Free of nothing", p.Free(), 0)
	pages := []int{7, 2, 2, 0, 1, 9, 7, 4, -5, 3, 2}
	handed := slices.Clone(pages)
	want(t, "Free", p.Free(pages...), 4)
	want(t, "what was handed in", slices.Equal(pages, handed), true)
	want(t, "Free once more", p.Free(pages...), 0)
	want(t, "Spare", p.Spare(), 2)
	want(t, "Alloc of new pages that were freed", alloc(p, 3), "3 7 8")
	want(t, "Free of those, anew", p.Free(3, 3, 8), 2)
	want(t, "Spare", p.Spare(), 2)
	want(t, "Commit", p.Commit(5, 1), api.OK)
	want(t, "it stands", stands(p), "{2 5 1 9} 4 0 false")
	want(t, "Alloc", alloc(p, 5), "2 3 4 8 9")
}

// P10.3: without Use all pages below the meta's Pages are used, and may be freed; with it those that it named.
func TestFreeAndUse(t *testing.T) {
	made := func() *Pager { return open(t, laid(30, metaPage(api.Meta{Tx: 2, Pages: 8}), "")) }
	p := made()
	want(t, "without Use", fmt.Sprint(p.Spare(), p.Free(1, 2, 3, 7, 8, 9)), "0 3")
	want(t, "Alloc without Use", alloc(p, 1), "8")
	p.Commit(0, 0)
	want(t, "Alloc without Use, committed", alloc(p, 4), "2 3 7 9")
	p = made()
	want(t, "with Use", fmt.Sprint(p.Use(3, 5), p.Free(0, 1, 2, 3, 4, 5, 6, 7, 8, 9), p.Spare()), "4 2 4")
	p.Commit(0, 0)
	want(t, "Alloc with Use, committed", alloc(p, 7), "2 3 4 5 6 7 8")
}

// P10.4: what a commit writes, in which order; what counts behind it.
func TestCommit(t *testing.T) {
	p, d := some(t)
	want(t, "Alloc", alloc(p, 3), "3 6 7")
	p.Write(3, 'L', "x")
	p.Free(4, 6)
	ops, zero, one := d.Ops(), seen(d, 0), seen(d, 1)
	want(t, "Commit", p.Commit(3, 99), api.OK)
	want(t, "operations", d.Ops()-ops, 3)
	want(t, "it stands", stands(p), "{2 3 99 8} 2 0 false")
	want(t, "page 0", seen(d, 0), metaPage(api.Meta{Tx: 2, Root: 3, Entries: 99, Pages: 8}))
	want(t, "page 0 has changed", seen(d, 0) != zero, true)
	want(t, "page 1", seen(d, 1), one)
	want(t, "no page is new", told(p.Write(3, 'L', "y"), p.Write(7, 'L', "y")), "1 1")
	want(t, "new pages are the state's", p.Free(3, 7), 2)
	p.Rollback()
	want(t, "freed pages are spare", alloc(p, 3), "4 6 8")
	p.Rollback()
	want(t, "Commit of nothing", p.Commit(0, 0), api.OK)
	want(t, "it stands", stands(p), "{3 0 0 8} 2 0 false")
	want(t, "page 0", seen(d, 0), metaPage(api.Meta{Tx: 2, Root: 3, Entries: 99, Pages: 8}))
	want(t, "page 1", seen(d, 1), metaPage(api.Meta{Tx: 3, Pages: 8}))
	d.Crash()
	want(t, "opened anew", stands(open(t, d)), "{3 0 0 8} 0 0 false")
	want(t, "Commit of great numbers", p.Commit(math.MaxInt, math.MaxInt), api.OK)
	want(t, "it stands", p.Meta(), api.Meta{Tx: 4, Root: math.MaxInt, Entries: math.MaxInt, Pages: 8})
}

// P10.4: Pages is as many as were ever used, those that were allocated and freed again among them, not those that were rolled back.
func TestCommitCountsPages(t *testing.T) {
	p := open(t, disk.New(10))
	alloc(p, 4)
	p.Free(5, 4)
	want(t, "Commit", p.Commit(0, 0), api.OK)
	want(t, "with freed pages", stands(p), "{1 0 0 6} 2 0 false")
	want(t, "Alloc", alloc(p, 4), "4 5 6 7")
	p.Rollback()
	want(t, "Commit", p.Commit(0, 0), api.OK)
	want(t, "with pages that were rolled back", stands(p), "{2 0 0 6} 2 0 false")
	p.Free(2, 3)
	want(t, "Commit", p.Commit(0, 0), api.OK)
	want(t, "with no page that is used", stands(p), "{3 0 0 6} 4 0 false")
}

// P10.4: roots and entries below 0 are refused, and nothing else happens; it is not broken.
func TestCommitBelowZero(t *testing.T) {
	p, d := some(t)
	alloc(p, 1)
	p.Free(4)
	ops := d.Ops()
	for _, below := range []int{-1, -2, math.MinInt32, math.MinInt} {
		want(t, "Commit", told(p.Commit(below, 0), p.Commit(0, below), p.Commit(below, below), p.Commit(below, math.MaxInt), p.Commit(3, below)), "1 1 1 1 1")
	}
	want(t, "operations", d.Ops(), ops)
	want(t, "it stands", stands(p), "{1 2 3 7} 1 0 false")
	want(t, "the page is new, the other one is freed", fmt.Sprint(int(p.Write(3, 'L', "x")), p.Free(4)), "0 0")
	want(t, "Commit", p.Commit(3, 0), api.OK)
	want(t, "it stands", stands(p), "{2 3 0 7} 2 0 false")
	p, _ = broken(t)
	want(t, "Commit of a broken pager", told(p.Commit(-1, 0), p.Commit(0, -1)), "13 13")
}

// P10.4: each operation of a commit failing, and the power gone at each: the error is told, the pager is broken for good, and stands as it did.
func TestCommitFails(t *testing.T) {
	for op := range 3 {
		for _, c := range []struct {
			fault func(d *disk.Disk)
			tells api.Errno
		}{
			{func(d *disk.Disk) { d.Fail(op + 1) }, api.ErrDisk},
			{func(d *disk.Disk) { d.Arm(op) }, api.ErrPower},
		} {
			what := fmt.Sprintf("operation %d, error %d", op, c.tells)
			p, d := some(t)
			alloc(p, 1)
			p.Free(4)
			old, ops := stands(p), d.Ops()
			c.fault(d)
			want(t, what, p.Commit(3, 3), c.tells)
			want(t, what+", operations", d.Ops()-ops, op)
			want(t, what+", it stands", stands(p), strings.Replace(old, "false", "true", 1))
			d.Clear()
			want(t, what+", broken", told(p.Commit(3, 3), p.Write(3, 'L', "x"))+" "+alloc(p, 1), "13 13 e13")
			want(t, what+", the other one is freed", p.Free(4), 0)
			p.Rollback()
			d.Crash(1, 1, 1, 1)
			want(t, what+", broken for good", told(p.Commit(3, 3), p.Commit(3, 3), p.Write(3, 'L', "x"))+" "+alloc(p, 1)+fmt.Sprint(" ", p.Broken()), "13 13 13 e13 true")
			want(t, what+", operations at last", d.Ops()-ops, op)
			want(t, what+", rolled back", stands(p), "{1 2 3 7} 2 0 true")
		}
	}
	p, d := some(t)
	d.Limit(1)
	want(t, "a device that has become too small", told(p.Commit(0, 0), p.Commit(0, 0), p.Commit(0, 0))+fmt.Sprint(" ", p.Broken()), "0 1 13 true")
}

// P10.4: Rollback behind Alloc, Free, both, of pages that were never used, twice.
func TestRollback(t *testing.T) {
	p, d := some(t)
	ops := d.Ops()
	again := func(what string) {
		t.Helper()
		p.Rollback()
		want(t, what+", it stands", stands(p), "{1 2 3 7} 2 0 false")
		want(t, what+", no page is new", told(p.Write(3, 'L', "y"), p.Write(6, 'L', "y"), p.Write(7, 'L', "y"), p.Write(8, 'L', "y")), "1 1 1 1")
		want(t, what+", Alloc", alloc(p, 4), "3 6 7 8")
		want(t, what+", Free", p.Free(2, 4, 5), 3)
		want(t, what+", Spare", p.Spare(), 0)
		p.Rollback()
		want(t, what+", it stands once more", stands(p), "{1 2 3 7} 2 0 false")
	}
	again("nothing")
	alloc(p, 1)
	again("Alloc of a spare page")
	alloc(p, 4)
	again("Alloc of pages that were never used")
	p.Free(2, 4, 5)
	again("Free")
	alloc(p, 4)
	p.Free(3, 8, 2)
	again("Free of new pages")
	alloc(p, 4)
	p.Free(7)
	again("Free of a page that was never used")
	alloc(p, 4)
	p.Free(3, 6, 7, 8)
	alloc(p, 3)
	again("Alloc of pages that were freed")
	alloc(p, 10)
	again("Alloc of all")
	want(t, "operations", d.Ops(), ops)
	p.Free(4)
	p.Rollback()
	want(t, "Commit", p.Commit(2, 3), api.OK)
	want(t, "nothing was freed", stands(p), "{2 2 3 7} 2 0 false")
	p = open(t, disk.New(10))
	p.Rollback()
	want(t, "of a new one", stands(p)+" "+alloc(p, 2), "{0 0 0 2} 0 0 false 2 3")
	p.Rollback()
	want(t, "of a new one, behind Alloc", stands(p)+" "+alloc(p, 2), "{0 0 0 2} 0 0 false 2 3")
}

// A nil pager: ErrArg, 0, true; Meta zeros.
func TestNil(t *testing.T) {
	var p *Pager
	p.Rollback()
	n, e := p.Alloc()
	want(t, "Alloc", fmt.Sprint(n, int(e)), "0 1")
	want(t, "Read", read(p, 2), `0 "" 1`)
	want(t, "Write", told(p.Write(2, 'L', "x"), p.Write(2, 'L', strings.Repeat("x", 1014))), "1 1")
	want(t, "Commit", told(p.Commit(2, 1), p.Commit(-1, -1)), "1 1")
	want(t, "Use, Free, Spare, Reads", fmt.Sprint(p.Use(), p.Use(2, 3), p.Free(), p.Free(2, 3), p.Spare(), p.Reads()), "0 0 0 0 0 0")
	want(t, "Meta", p.Meta(), api.Meta{})
	want(t, "Broken", p.Broken(), true)
}

// P1: a meta may tell of numbers that no pager ever wrote; all calls end nonetheless.
func TestStrangeMetas(t *testing.T) {
	p := open(t, laid(10, metaPage(api.Meta{Tx: 2, Root: math.MaxInt, Entries: math.MaxInt, Pages: math.MaxInt}), ""))
	want(t, "Use of very many pages", p.Use(3, math.MaxInt, math.MaxInt-1, 1<<40, 4), math.MaxInt-2-4)
	want(t, "Spare", p.Spare(), math.MaxInt-2-4)
	want(t, "Free", p.Free(2, 3, 5, 1<<40, 1<<41, math.MaxInt-1, math.MaxInt), 3)
	want(t, "Alloc", alloc(p, 2), "2 5")
	want(t, "Commit", p.Commit(0, 0), api.OK)
	want(t, "it stands", stands(p), fmt.Sprint(api.Meta{Tx: 3, Pages: math.MaxInt}, math.MaxInt-2-4-2+3, 0, false))
	want(t, "Alloc", alloc(p, 9), "3 6 7 8 9 10 11 12 13")
	want(t, "Write of a page that the device hasn't", p.Write(13, 'L', "x"), api.ErrArg)
	p.Rollback()
	want(t, "Spare", p.Spare(), math.MaxInt-2-4-2+3)
	p = open(t, laid(10, metaPage(api.Meta{Tx: 2, Pages: math.MaxInt}), ""))
	want(t, "Alloc with nothing spare", alloc(p, 2), "e16 e16")

	d := laid(10, "", metaPage(api.Meta{Tx: math.MaxInt, Root: 4, Pages: 6}))
	p = open(t, d)
	want(t, "Commit behind the last transaction of all", fmt.Sprint(int(p.Commit(0, 0)), p.Broken(), p.Meta().Tx == math.MaxInt), "1 true true")
	want(t, "opened anew", open(t, d).Meta(), api.Meta{Tx: math.MaxInt, Root: 4, Pages: 6})

	for pages := range 2 {
		d := laid(10, metaPage(api.Meta{Tx: 2, Pages: pages}), "")
		p := open(t, d)
		want(t, "Meta of fewer pages than the metas' own", p.Meta().Pages, pages)
		want(t, "Alloc of those", fmt.Sprint(p.Use(), " ", alloc(p, 2)), "0 2 3")
		p.Rollback()
		want(t, "Spare", p.Spare(), 0)
		want(t, "Commit", p.Commit(0, 0), api.OK)
		want(t, "Meta", p.Meta(), api.Meta{Tx: 3, Pages: 2})
	}
}

// P1: a device of as many pages as there may be, all of them handed out, freed and handed out again.
func TestManyPages(t *testing.T) {
	p := open(t, laid(api.MaxPages, metaPage(api.Meta{Tx: 2, Pages: 60000}), ""))
	var used []int
	for n := 3; n < 60000; n += 2 {
		used = append(used, n)
	}
	slices.Reverse(used)
	want(t, "Use", p.Use(used...), 29999)
	rising := func(first, step, end int) {
		t.Helper()
		for n := first; n < end; n += step {
			if got, e := p.Alloc(); got != n || e != api.OK {
				t.Fatalf("Alloc: %d, error %d, want %d", got, e, n)
			}
		}
	}
	rising(2, 2, 60000)
	rising(60000, 1, 65536)
	want(t, "Alloc", alloc(p, 1), "e16")
	want(t, "Free", p.Free(used...), len(used))
	want(t, "Commit", p.Commit(0, 0), api.OK)
	want(t, "it stands", stands(p), fmt.Sprintf("{3 0 0 65536} %d 0 false", len(used)))
	rising(3, 2, 60000)
	want(t, "Alloc", alloc(p, 1), "e16")
	p.Rollback()
	rising(3, 2, 60000)
}
