package pager

import (
	"fmt"
	"maps"
	"math/rand"
	"slices"
	"strings"
	"testing"

	"loess/api"
	"loess/disk"
)

// state is one as its owner knows it: the meta, and the body of each page that it uses.
type state struct {
	meta  api.Meta
	pages map[int]string
}

// owner has a store, and changes it as a tree would: what was there is written anew to other pages.
type owner struct {
	d       *disk.Disk
	p       *Pager
	now     state
	count   int // of bodies, no two of which are alike
	made    int // pages of this transaction
	most    int // pages of the greatest state
	mostNew int // pages of the greatest transaction
}

func newOwner(t *testing.T, pages int) *owner {
	o := &owner{d: disk.New(pages), now: state{meta: api.Meta{Pages: 2}}}
	o.p = open(t, o.d)
	return o
}

// put is a new page with a body, written as often as is said.
func (o *owner) put(next state, times int) api.Errno {
	n, e := o.p.Alloc()
	if e != api.OK {
		return e
	}
	o.made++
	o.mostNew = max(o.mostNew, o.made)
	for range times {
		o.count++
		// All sectors of a page differ from those of any other body.
		body := strings.Repeat(fmt.Sprintf("<%d>", o.count), 400)[:1013]
		if e := o.p.Write(n, 'L', body); e != api.OK {
			return e
		}
		next.pages[n] = body
	}
	return api.OK
}

// change makes so many pages anew, takes so many away and adds so many, but doesn't commit. What is committed next, if it told OK, is what it tells.
func (o *owner) change(anew, gone, more int) (state, api.Errno) {
	o.made = 0
	next := state{pages: maps.Clone(o.now.pages)}
	if next.pages == nil {
		next.pages = map[int]string{}
	}
	old := slices.Sorted(maps.Keys(o.now.pages))
	for i, n := range old[:min(anew+gone, len(old))] {
		o.p.Free(n)
		delete(next.pages, n)
		if i < anew {
			if e := o.put(next, 1+i%2); e != api.OK {
				return state{}, e
			}
		}
	}
	for range more {
		if e := o.put(next, 1); e != api.OK {
			return state{}, e
		}
	}
	next.meta = api.Meta{Tx: o.now.meta.Tx + 1, Root: o.count, Entries: len(next.pages), Pages: o.p.end}
	return next, api.OK
}

// commit commits what change has told.
func (o *owner) commit(next state) api.Errno {
	e := o.p.Commit(next.meta.Root, next.meta.Entries)
	if e == api.OK {
		o.now = next
		o.most = max(o.most, len(next.pages))
	}
	return e
}

// reopen opens the device, and holds what is found against the states that it may have, with all their pages.
func (o *owner) reopen(t *testing.T, what string, mayBe ...state) {
	t.Helper()
	o.p = open(t, o.d)
	at := slices.IndexFunc(mayBe, func(s state) bool { return s.meta == o.p.Meta() })
	if at < 0 {
		t.Fatalf("%s: opened: %v", what, o.p.Meta())
	}
	o.now = mayBe[at]
	o.most = max(o.most, len(o.now.pages))
	o.whole(t, what)
	pages := slices.Collect(maps.Keys(o.now.pages))
	want(t, what+", Use", o.p.Use(pages...), max(o.now.meta.Pages-2-len(pages), 0))
}

// whole is whether all pages of the state are as they were written.
func (o *owner) whole(t *testing.T, what string) {
	t.Helper()
	for n, body := range o.now.pages {
		if kind, got, e := o.p.Read(n); kind != 'L' || got != body || e != api.OK {
			t.Fatalf("%s: page %d of transaction %d: %.20q, error %d, want %.20q", what, n, o.now.meta.Tx, got, e, body)
		}
	}
}

// room is P10.5's bound.
func (o *owner) room(t *testing.T, what string) {
	t.Helper()
	if used, bound := max(o.d.Used(), o.p.Meta().Pages), o.most+2*o.mostNew+2; used > bound {
		t.Fatalf("%s: %d pages were used, the bound is %d", what, used, bound)
	}
}

// must is that a transaction is done.
func (o *owner) must(t *testing.T, anew, gone, more int) {
	t.Helper()
	next, e := o.change(anew, gone, more)
	if e != api.OK {
		t.Fatalf("a change: error %d", e)
	}
	if e := o.commit(next); e != api.OK {
		t.Fatalf("a commit: error %d", e)
	}
}

// worked is a store with metas on both pages, spare pages, and more than one state behind it.
func worked(t *testing.T) *owner {
	o := newOwner(t, 60)
	o.must(t, 0, 0, 6)
	o.must(t, 2, 1, 1)
	o.must(t, 3, 0, 0)
	return o
}

// picksOf is ways in which so many sectors may be kept: all, none, each alone, all but each, and some by chance; all there are, if these are few.
func picksOf(sectors int, random *rand.Rand) [][]int {
	var all [][]int
	if sectors <= 4 {
		for bits := range 1 << sectors {
			all = append(all, []int{bits, bits >> 1, bits >> 2, bits >> 3}[:sectors])
		}
		return all
	}
	all = append(all, nil, slices.Repeat([]int{1}, sectors))
	for i := range sectors {
		one, other := make([]int, sectors), slices.Repeat([]int{1}, sectors)
		one[i], other[i] = 1, 0
		all = append(all, one, other, random.Perm(sectors))
	}
	return all
}

// A transaction that is cut in these tests: it writes spare pages and pages never used, one of them twice, and frees some. With its commit it is so many operations, the last three of which are the commit's.
const (
	cutAnew, cutGone, cutMore = 3, 1, 2
	cutWrites                 = 4 + 2
	cutOps                    = cutWrites + 3
)

// cut does the transaction with the device as it is, and tells what it would have made, and what it told. A change that fails is rolled back.
func (o *owner) cut(t *testing.T) (state, api.Errno) {
	next, e := o.change(cutAnew, cutGone, cutMore)
	if e != api.OK {
		o.p.Rollback()
		return next, e
	}
	return next, o.commit(next)
}

// P10.5: the power goes at each operation of a transaction and its commit, and of what does not last whatever sectors are kept: the state ahead, or the one behind, is found whole; and the store goes on.
func TestCutByPower(t *testing.T) {
	random := rand.New(rand.NewSource(1))
	found := map[string]int{}
	for op := range cutOps + 1 {
		// Sectors that do not last when the power goes: of the pages that were written, or of the meta.
		sectors := 4 * min(op, cutWrites)
		if op > cutWrites {
			sectors = 0
		}
		if op == cutWrites+2 {
			sectors = 4
		}
		for _, picks := range picksOf(sectors, random) {
			o := worked(t)
			what := fmt.Sprintf("power gone at %d, kept %v", op, picks)
			ahead := o.now
			o.d.Arm(op)
			next, e := o.cut(t)
			if op == cutOps {
				want(t, what, e, api.OK)
				ahead = next
			} else {
				want(t, what, e, api.ErrPower)
				want(t, what+", broken", o.p.Broken(), op >= cutWrites)
			}
			o.d.Crash(picks...)
			o.reopen(t, what, ahead, next)
			found[fmt.Sprint(op == cutWrites+2, o.now.meta == next.meta)]++
			o.room(t, what)
			o.must(t, 2, 1, 2)
			o.d.Crash(picks...)
			o.reopen(t, what+", gone on", o.now)
			o.room(t, what)
		}
	}
	want(t, "the states that were found behind a torn meta", fmt.Sprint(found["true false"], found["true true"]), "8 8")
}

// P10.5: each operation of a transaction and its commit fails; opened anew at once, or behind a crash with whatever sectors kept.
func TestCutByFault(t *testing.T) {
	random := rand.New(rand.NewSource(2))
	for op := range cutOps {
		for i, picks := range append(picksOf(4*cutWrites, random), picksOf(4, random)...) {
			o := worked(t)
			what := fmt.Sprintf("operation %d fails, kept %v", op, picks)
			ahead := o.now
			o.d.Fail(op + 1)
			next, e := o.cut(t)
			want(t, what, e, api.ErrDisk)
			want(t, what+", broken", o.p.Broken(), op >= cutWrites)
			if i == 0 {
				o.d.Clear()
			} else {
				o.d.Crash(picks...)
			}
			o.reopen(t, what, ahead, next)
			if i == 0 {
				want(t, what+", the one behind is found", o.now.meta == next.meta, op == cutOps-1)
			}
			// What was found has to last from then on, while its spare pages are written.
			if _, e := o.change(2, 1, 2); e != api.OK {
				t.Fatalf("%s: a change: error %d", what, e)
			}
			o.d.Sync()
			o.whole(t, what+", changed")
			o.d.Crash()
			o.reopen(t, what+", crashed once more", o.now)
			o.must(t, 2, 1, 2)
			o.room(t, what)
		}
	}
}

// P10.5: a commit whose last Sync failed is found by Open, and may not be lost by a crash behind that, since its own spare pages are written from then on.
func TestFoundLasts(t *testing.T) {
	o := worked(t)
	o.d.Fail(cutOps)
	next, e := o.cut(t)
	want(t, "the last Sync", e, api.ErrDisk)
	o.reopen(t, "opened", next)
	if _, e := o.change(5, 0, 5); e != api.OK {
		t.Fatalf("a change: error %d", e)
	}
	// None of the writes is lost but that of the meta, if it doesn't last.
	o.d.Crash(append(make([]int, 4), slices.Repeat([]int{1}, 200)...)...)
	o.reopen(t, "crashed", next)
}

// P10.5: what a commit told OK of is found by each later Open, whatever happens to those.
func TestCommitted(t *testing.T) {
	for times := range 6 {
		o := newOwner(t, 60)
		for range times {
			o.must(t, 1, 0, 2)
		}
		for op := range 3 {
			o.d.Arm(op)
			_, e := Open(o.d)
			want(t, "Open without power", e, api.ErrPower)
			o.d.Crash(1, 0, 1, 1)
			o.reopen(t, fmt.Sprintf("%d commits", times), o.now)
			o.d.Fail(op + 1)
			_, e = Open(o.d)
			want(t, "Open that fails", e, api.ErrDisk)
			o.reopen(t, fmt.Sprintf("%d commits", times), o.now)
			want(t, "commits", o.p.Meta().Tx, times)
		}
	}
}

// P10.5: transactions of all sizes in a row, some rolled back, some cut off, by the power and by faults, the store opened anew; no more pages are ever used than it says.
func TestLongRun(t *testing.T) {
	for seed := range int64(40) {
		random := rand.New(rand.NewSource(seed))
		o := newOwner(t, 400)
		for step := range 60 {
			what := fmt.Sprintf("seed %d, step %d", seed, step)
			fault := random.Intn(4)
			switch fault {
			case 0:
				o.d.Arm(random.Intn(30))
			case 1:
				o.d.Fail(1 + random.Intn(30))
			}
			next, e := o.change(random.Intn(8), random.Intn(6), random.Intn(6))
			switch {
			case e != api.OK:
				o.p.Rollback()
			case random.Intn(5) == 0:
				o.p.Rollback()
				next = o.now
			default:
				e = o.commit(next)
			}
			if fault > 1 {
				want(t, what, e, api.OK)
			}
			if e == api.OK && random.Intn(3) > 0 {
				o.d.Clear()
				o.whole(t, what)
			} else {
				ahead := o.now
				if e == api.OK || next.pages == nil {
					next = ahead
				}
				if o.d.Clear(); !o.d.On() || random.Intn(2) == 0 {
					o.d.Crash(random.Perm(200)...)
				}
				o.reopen(t, what, ahead, next)
			}
			o.room(t, what)
		}
	}
}

// P10.5: a store whose every page is written anew by each transaction, and one that is filled and emptied, stay within their bound, however long they run.
func TestRoom(t *testing.T) {
	o := newOwner(t, 200)
	o.must(t, 0, 0, 30)
	for range 50 {
		o.must(t, 30, 0, 0)
		o.room(t, "all anew")
		if used := o.d.Used(); used > 2+30+30 {
			t.Fatalf("all anew: %d pages were used", used)
		}
	}
	o = newOwner(t, 200)
	for range 50 {
		o.must(t, 0, 0, 20)
		o.must(t, 10, 5, 0)
		o.must(t, 0, 15, 0)
		o.room(t, "filled and emptied")
	}
	o = newOwner(t, 200)
	o.must(t, 0, 0, 10)
	for range 50 {
		if _, e := o.change(10, 0, 10); e != api.OK {
			t.Fatalf("a change: error %d", e)
		}
		o.p.Rollback()
		o.must(t, 1, 0, 0)
		o.room(t, "rolled back")
		o.reopen(t, "rolled back", o.now)
	}
}
