package plain

import (
	"fmt"
	"testing"

	"loess/api"
	"loess/disk"
	"loess/kv"
)

// Each call of a transaction that is not open is ErrState.
func TestEnded(t *testing.T) {
	d, s, before := stored(t)
	x := begun(t, s)
	want(t, "Commit", x.Commit(), api.OK)
	rolled := begun(t, s)
	rolled.Rollback()
	failed := begun(t, s)
	apply(t, failed, blockOf(5, wrote(1, 1)))
	d.Fail(1)
	want(t, "Commit that fails", failed.Commit(), api.ErrDisk)
	for what, ended := range map[string]*kv.Tx{"committed": x, "rolled back": rolled, "failed": failed, "nil": nil, "zero": {}} {
		for name, call := range calls(ended) {
			want(t, name+" of one that is "+what, call(), "error 13")
		}
	}
	want(t, "Reopen", s.Reopen(), api.OK)
	y := begun(t, s)
	for name, call := range calls(x) {
		want(t, name+" of one that has ended, while another is open", call(), "error 13")
	}
	want(t, "the tables", all(y), before)
}

// stored is a device with the blocks of filled on it, and with so many accounts beside them that what a block reads and writes stands on many pages; and the rows of its tables.
func stored(t *testing.T) (*disk.Disk, *kv.Store, string) {
	t.Helper()
	d := disk.New(1000)
	s := opened(t, d)
	x := begun(t, s)
	apply(t, x, filled()...)
	for n := 100; n < 140; n++ {
		apply(t, x, blockOf(n, wrote(1, n, n, n), wrote(n, 1, 1, 2, 3, 4)))
	}
	before := all(x)
	want(t, "Commit", x.Commit(), api.OK)
	return d, s, before
}

// R2: an operation of the device that fails: the call tells it, and once it is rolled back all is as it was.
func TestFaults(t *testing.T) {
	d, s, before := stored(t)
	for name := range calls(nil) {
		x := begun(t, s)
		ops := d.Ops()
		calls(x)[name]()
		ops = d.Ops() - ops
		x.Rollback()
		for op := range ops {
			what := fmt.Sprintf("%s, operation %d of %d", name, op, ops)
			x := begun(t, s)
			d.Fail(op + 1)
			want(t, what, calls(x)[name](), "error 14")
			d.Clear()
			x.Rollback()
			if op%9 == 0 || op == ops-1 {
				y := begun(t, s)
				want(t, what+", rolled back", all(y), before)
				y.Rollback()
			}
		}
	}
}

// R2: without power each call that reads the device says so.
func TestPower(t *testing.T) {
	d, s, _ := stored(t)
	x := begun(t, s)
	d.Arm(0)
	for name, call := range calls(x) {
		want(t, name+" without power", call() == "error 15", name != "Apply without Writes")
	}
}

// R2: where there is no room the call tells ErrFull, and once it is rolled back all is as it was.
func TestFull(t *testing.T) {
	d, s, before := stored(t)
	used, full := d.Used(), 0
	for pages := used; pages < used+40; pages++ {
		d.Limit(pages)
		x := begun(t, s)
		e := Apply(x, blockOf(5, anew(1, 5, 1, 51, 2, 52), gone(2), wrote(3, 5, 1, 1, 2, 2, 3, 3)))
		if e != api.OK {
			want(t, fmt.Sprint("Apply on ", pages, " pages"), e, api.ErrFull)
			full++
		} else {
			e = Undo(x, 5)
			want(t, fmt.Sprint("Undo on ", pages, " pages"), e == api.OK || e == api.ErrFull, true)
			if e == api.OK {
				want(t, "undone", all(x), before)
			}
		}
		x.Rollback()
		y := begun(t, s)
		want(t, fmt.Sprint("rolled back on ", pages, " pages"), all(y), before)
		y.Rollback()
	}
	want(t, "some had no room", full > 0, true)
	d.Limit(1000)
	x := begun(t, s)
	apply(t, x, blockOf(5, gone(1)))
}
