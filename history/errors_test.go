package history

import (
	"fmt"
	"testing"

	"loess/api"
	"loess/disk"
	"loess/keccak"
	"loess/kv"
	"loess/plain"
)

// stored is a device with many blocks on it that were indexed, and with block 300 applied and not indexed; and the rows of its tables. What a call reads and writes stands on many pages.
func stored(t *testing.T) (*disk.Disk, *kv.Store, string) {
	t.Helper()
	d := disk.New(2000)
	s := opened(t, d)
	x := begun(t, s)
	for n := 1; n <= 210; n++ {
		b := blockOf(n, wrote(1, n, 1, n))
		if n%10 == 0 {
			b.Writes = append(b.Writes, wrote(n, n, 1, n))
		}
		follow(t, x, b)
	}
	want(t, "Apply", plain.Apply(x, blockOf(300, wrote(1, 300, 1, 300, 2, 300))), api.OK)
	before := every(x)
	want(t, "Commit", x.Commit(), api.OK)
	return d, s, before
}

// Each call of a transaction that is not open is ErrState.
func TestEnded(t *testing.T) {
	d, s, before := stored(t)
	x := begun(t, s)
	want(t, "Commit", x.Commit(), api.OK)
	rolled := begun(t, s)
	rolled.Rollback()
	broken := begun(t, s)
	put(t, broken, 1, "a", "b")
	d.Fail(1)
	want(t, "Commit that fails", broken.Commit(), api.ErrDisk)
	for what, ended := range map[string]*kv.Tx{"committed": x, "rolled back": rolled, "failed": broken, "nil": nil, "zero": {}} {
		for name, call := range calls(ended) {
			want(t, name+" of one that is "+what, call(), "error 13")
		}
	}
	want(t, "Reopen", s.Reopen(), api.OK)
	y := begun(t, s)
	for name, call := range calls(x) {
		want(t, name+" of one that has ended, while another is open", call(), "error 13")
	}
	want(t, "the tables", every(y), before)
}

// R2: an operation of the device that fails: the call tells it, and once it is rolled back all is as it was.
func TestFaults(t *testing.T) {
	d, s, before := stored(t)
	for name := range calls(nil) {
		x := begun(t, s)
		took := ops(d, func() { calls(x)[name]() })
		x.Rollback()
		for op := range took {
			what := fmt.Sprintf("%s, operation %d of %d", name, op, took)
			x := begun(t, s)
			d.Fail(op + 1)
			want(t, what, calls(x)[name](), "error 14")
			d.Clear()
			x.Rollback()
			if op%9 == 0 || op == took-1 {
				y := begun(t, s)
				want(t, what+", rolled back", every(y), before)
				y.Rollback()
			}
		}
	}
}

// R2: without power each call says so.
func TestPower(t *testing.T) {
	d, s, _ := stored(t)
	x := begun(t, s)
	d.Arm(0)
	for name, call := range calls(x) {
		want(t, name+" without power", call(), "error 15")
	}
}

// R2: where there is no room the call tells ErrFull, and once it is rolled back all is as it was.
func TestFull(t *testing.T) {
	d, s, before := stored(t)
	used, full := d.Used(), 0
	for pages := used; pages < used+60; pages++ {
		d.Limit(pages)
		for _, call := range []func(x *kv.Tx) api.Errno{
			func(x *kv.Tx) api.Errno { return Index(x, 300) },
			func(x *kv.Tx) api.Errno { return Unindex(x, 90) },
		} {
			x, e := s.Begin()
			want(t, "Begin", e, api.OK)
			e = call(x)
			want(t, fmt.Sprint("OK or ErrFull on ", pages, " pages: ", e), e == api.OK || e == api.ErrFull, true)
			if e != api.OK {
				full++
			}
			x.Rollback()
		}
	}
	want(t, "some had no room", full > 0, true)
	d.Limit(2000)
	x := begun(t, s)
	want(t, "rolled back", every(x), before)
	want(t, "Index", Index(x, 300), api.OK)
	want(t, "Unindex", Unindex(x, 300), api.OK)
	want(t, "the tables", every(x), before)
}

// R3: what Blocks tells is its owner's.
func TestMemory(t *testing.T) {
	_, s, before := stored(t)
	x := begun(t, s)
	one, _ := Blocks(x, api.AccountIndex, addr(10))
	two, _ := Blocks(x, api.AccountIndex, addr(10))
	one[0] = 77
	one = append(one[:1], 78)
	want(t, "another answer", list(two, 0), "[10]")
	want(t, "Blocks", list(Blocks(x, api.AccountIndex, addr(10))), "[10]")
	kept, _ := Blocks(x, api.AccountIndex, addr(1))
	want(t, "Index", Index(x, 300), api.OK)
	want(t, "Unindex", Unindex(x, 100), api.OK)
	want(t, "what was told doesn't change later", list(kept, 0), fmt.Sprint(count(1, 210, 1)))
	x.Rollback()
	want(t, "what was told doesn't change behind a Rollback", list(kept, 0), fmt.Sprint(count(1, 210, 1)))
	want(t, "the tables", every(begun(t, s)), before)
}

// R3: what asks changes nothing.
func TestAskingChangesNothing(t *testing.T) {
	_, s, before := stored(t)
	x := begun(t, s)
	for name, call := range calls(x) {
		switch name {
		case "Index", "Unindex", "Unindex of several":
			continue
		}
		call()
	}
	want(t, "the tables", every(x), before)
}

// R4: the same calls have the same answers and the same operations on the device, in the same order.
func TestSteps(t *testing.T) {
	d, _, _ := stored(t)
	var first string
	for run := range 3 {
		d := d.Copy()
		s := opened(t, d)
		x := begun(t, s)
		told := fmt.Sprint(Index(x, 300), " ", d.Ops(), " ", Unindex(x, 90), " ", d.Ops(), " ", valueAt(x, 1, 1, 80), " ", list(Blocks(x, api.SlotIndex, slot(1, 1, 1))), " ", d.Ops(), " ", x.Commit(), " ", d.Ops())
		for n := range d.Used() {
			page, _ := d.Read(n)
			told += fmt.Sprintf(" %x", keccak.Sum(page))
		}
		if run == 0 {
			first = told
		}
		want(t, fmt.Sprint("run ", run), told == first, true)
	}
}
