package pager

import (
	"fmt"
	"math/rand"
	"slices"
	"testing"

	"loess/api"
	"loess/disk"
	"loess/page"
)

// The rules of the chapter once more, by its own words: each page is one thing at a time, and what each was when the transaction began is kept beside it; a rollback takes that back.

const (
	isNever = iota
	isMeta
	isUsed
	isFreed // of the state, spare from the next commit on
	isSpare
	isNew
)

const rulePages = 64 // more than any device and any meta of these tests has

type rulePager struct {
	d       *disk.Disk
	meta    api.Meta
	is, was [rulePages]int
	late    bool // for Use
	dead    bool
	reads   int
}

func ruleOpen(d *disk.Disk) (*rulePager, api.Errno) {
	if d.Pages() < 2 {
		return nil, api.ErrFull
	}
	var text [2]string
	for n := range text {
		t, e := d.Read(n)
		if e != api.OK {
			return nil, e
		}
		text[n] = t
	}
	r := &rulePager{d: d}
	if text[0] == string(make([]byte, 1024)) && text[1] == text[0] {
		r.meta = api.Meta{Pages: 2}
		if e := d.Write(0, metaPage(r.meta)); e != api.OK {
			return nil, e
		}
	} else {
		m, _, e := page.Newest(text[0], text[1])
		if e != api.OK {
			return nil, e
		}
		r.meta = m
	}
	for n := range rulePages {
		switch {
		case n < 2:
			r.is[n] = isMeta
		case n < r.meta.Pages:
			r.is[n] = isUsed
		}
	}
	r.was = r.is
	if e := d.Sync(); e != api.OK {
		return nil, e
	}
	return r, api.OK
}

func (r *rulePager) count(what int) int {
	count := 0
	for _, is := range r.is {
		if is == what {
			count++
		}
	}
	return count
}

func (r *rulePager) first(what int) int { return slices.Index(r.is[:], what) }

func (r *rulePager) stands() string {
	return fmt.Sprint(r.meta, r.count(isSpare), r.reads, r.dead)
}

func (r *rulePager) use(pages ...int) int {
	if r.late {
		return 0
	}
	r.late = true
	for n := range r.is {
		if r.is[n] == isUsed && !slices.Contains(pages, n) {
			r.is[n] = isSpare
		}
	}
	r.was = r.is
	return r.count(isSpare)
}

func (r *rulePager) alloc() (int, api.Errno) {
	r.late = true
	if r.dead {
		return 0, api.ErrState
	}
	n := r.first(isSpare)
	if n < 0 {
		if n = r.first(isNever); n >= r.d.Pages() {
			return 0, api.ErrFull
		}
	}
	r.is[n] = isNew
	return n, api.OK
}

func (r *rulePager) write(n int, kind byte, body string) api.Errno {
	switch {
	case r.dead:
		return api.ErrState
	case n < 0 || n >= rulePages || r.is[n] != isNew:
		return api.ErrArg
	case len(body) > 1013:
		return api.ErrSize
	}
	return r.d.Write(n, sealed(kind, body))
}

func (r *rulePager) read(n int) string {
	text, e := r.d.Read(n)
	if e != api.OK {
		return fmt.Sprintf("0 %q %d", "", e)
	}
	kind, body, e := page.Open(text)
	if e == api.OK {
		r.reads++
	}
	return fmt.Sprintf("%d %.40q %d", kind, body, e)
}

func (r *rulePager) free(pages ...int) int {
	r.late = true
	count := 0
	for _, n := range pages {
		if n < 0 || n >= rulePages {
			continue
		}
		switch r.is[n] {
		case isNew:
			r.is[n] = isSpare
			count++
		case isUsed:
			r.is[n] = isFreed
			count++
		}
	}
	return count
}

func (r *rulePager) commit(root, entries int) api.Errno {
	r.late = true
	if r.dead {
		return api.ErrState
	}
	if root < 0 || entries < 0 {
		return api.ErrArg
	}
	m := api.Meta{Tx: r.meta.Tx + 1, Root: root, Entries: entries, Pages: r.first(isNever)}
	r.dead = true
	if e := r.d.Sync(); e != api.OK {
		return e
	}
	if e := r.d.Write(m.Tx%2, metaPage(m)); e != api.OK {
		return e
	}
	if e := r.d.Sync(); e != api.OK {
		return e
	}
	r.dead, r.meta = false, m
	for n := range r.is {
		switch r.is[n] {
		case isNew:
			r.is[n] = isUsed
		case isFreed:
			r.is[n] = isSpare
		}
	}
	r.was = r.is
	return api.OK
}

func (r *rulePager) rollback() {
	r.late = true
	r.is = r.was
}

// pair is a pager and the chapter's rules, each with a device of its own; the two devices are given the same.
type pair struct {
	p    *Pager
	r    *rulePager
	d, c *disk.Disk
}

// both does something to the two devices.
func (x *pair) both(do func(d *disk.Disk)) {
	do(x.d)
	do(x.c)
}

// reopen opens both devices, till it is done without a fault.
func (x *pair) reopen(t *testing.T) {
	for {
		p, e := Open(x.d)
		r, wrong := ruleOpen(x.c)
		want(t, "Open", e, wrong)
		want(t, "a pager", p == nil, e != api.OK)
		if e == api.OK {
			x.p, x.r = p, r
			return
		}
		x.both(func(d *disk.Disk) { d.Clear() })
		switch e {
		case api.ErrPower:
			x.both(func(d *disk.Disk) { d.Crash(1, 1, 0, 1) })
		case api.ErrStore:
			x.both(func(d *disk.Disk) { d.Write(1, metaPage(api.Meta{Tx: 9, Pages: 5})) })
		case api.ErrFull:
			x.both(func(d *disk.Disk) { d.Limit(20) })
		}
	}
}

func randomPages(random *rand.Rand) []int {
	pages := make([]int, random.Intn(8))
	for i := range pages {
		pages[i] = random.Intn(26) - 1
	}
	return pages
}

// call does one call with both, and tells what the pager and the rules told.
func (x *pair) call(t *testing.T, random *rand.Rand) (string, any, any) {
	n, pages := random.Intn(24)-1, randomPages(random)
	switch random.Intn(20) {
	case 0:
		return "Use", x.p.Use(pages...), x.r.use(pages...)
	case 1, 2, 3, 4, 5:
		a, e := x.p.Alloc()
		b, wrong := x.r.alloc()
		return "Alloc", fmt.Sprint(a, int(e)), fmt.Sprint(b, int(wrong))
	case 6, 7, 8:
		body := string(make([]byte, []int{0, 1, 7, 1013, 1014}[random.Intn(5)]))
		return "Write", x.p.Write(n, byte(n), body), x.r.write(n, byte(n), body)
	case 9, 10:
		return "Read", read(x.p, n), x.r.read(n)
	case 11, 12, 13:
		return "Free", x.p.Free(pages...), x.r.free(pages...)
	case 14, 15:
		root, entries := random.Intn(20)-1, random.Intn(20)-1
		return "Commit", x.p.Commit(root, entries), x.r.commit(root, entries)
	case 16:
		x.p.Rollback()
		x.r.rollback()
		return "Rollback", 0, 0
	}
	x.disturb(t, random)
	return "a fault", 0, 0
}

// disturb does something to both devices, or opens them anew.
func (x *pair) disturb(t *testing.T, random *rand.Rand) {
	n := random.Intn(12)
	switch random.Intn(8) {
	case 0:
		x.both(func(d *disk.Disk) { d.Fail(n) })
	case 1:
		x.both(func(d *disk.Disk) { d.Arm(n) })
	case 2:
		x.both(func(d *disk.Disk) { d.Limit(n + 12) })
	case 3:
		x.both(func(d *disk.Disk) { d.Clear() })
	case 4:
		picks := random.Perm(100)
		x.both(func(d *disk.Disk) { d.Crash(picks...) })
	case 5:
		text := []string{metaPage(api.Meta{Tx: n, Root: n, Pages: n}), sealed('M', "no meta"), string(make([]byte, 1024))}[random.Intn(3)]
		x.both(func(d *disk.Disk) { d.Write(n%2, text) })
	default:
		x.reopen(t)
	}
}

// P10.1 to P10.4: calls in any order, with faults of all kinds between, are answered as the rules say, and do the same to the device.
func TestAnyOrder(t *testing.T) {
	for seed := range int64(400) {
		random := rand.New(rand.NewSource(seed))
		x := &pair{d: disk.New(20)}
		x.c = x.d.Copy()
		x.reopen(t)
		for step := range 150 {
			what, got, wants := x.call(t, random)
			what = fmt.Sprintf("seed %d, step %d, %s", seed, step, what)
			want(t, what, fmt.Sprint(got), fmt.Sprint(wants))
			want(t, what+", it stands", stands(x.p), x.r.stands())
			want(t, what+", operations", x.d.Ops(), x.c.Ops())
			want(t, what+", runs that are kept", len(x.p.spare.runs), len(x.p.spare.firsts))
			if t.Failed() {
				return
			}
		}
		x.both(func(d *disk.Disk) { d.Crash(1, 0, 0, 1, 1, 1, 1, 1, 0, 1, 0, 1, 1, 0, 1, 0) })
		for n := range 26 {
			want(t, fmt.Sprintf("seed %d, page %d", seed, n), seen(x.d, n), seen(x.c, n))
		}
	}
}
