package kv

import (
	"fmt"
	"maps"
	"math/rand"
	"slices"
	"testing"

	"loess/api"
	"loess/disk"
)

// rewritten changes a transaction's tables and a model in all ways.
func rewritten(t *testing.T, x *Tx, m model) {
	t.Helper()
	for i, k := range slices.Sorted(maps.Keys(m)) {
		table, key := k[0], k[1:]
		switch {
		case i%9 == 0:
			want(t, "Delete", was(x.Delete(table, key)), "true")
			delete(m, k)
		case i%14 == 1 && table != 3:
			put(t, x, m, table, key, text(i*11, i+1))
		case i%17 == 2 && table != 3:
			put(t, x, m, table, key+"new", text(i, i+2))
		}
	}
	add(t, x, m, 3, "k1", "newer")
	want(t, "Clear", count(x.Clear(2, "key04")), fmt.Sprint(m.cleared(2, "key04")))
}

// P12.4 and P12.5: each operation of a Commit failing: the error is told, it is rolled back and not open, the store has failed; opened anew it has all of it, or nothing, and goes on.
func TestCommitFails(t *testing.T) {
	base, start, before := filled(t)
	behind := maps.Clone(before)
	x := begun(t, base)
	rewritten(t, x, behind)
	first := start.Copy()
	ops := start.Ops()
	commit(t, x)
	ops = start.Ops() - ops
	want(t, "there are some operations", ops > 30, true)
	seen := [2]int{}
	for op := range ops {
		what := fmt.Sprintf("operation %d of %d", op, ops)
		d := first.Copy()
		s := opened(t, d)
		pages := s.Pages()
		m := maps.Clone(before)
		x := begun(t, s)
		rewritten(t, x, m)
		d.Fail(op + 1)
		want(t, what+", Commit", x.Commit(), api.ErrDisk)
		want(t, what+", it is not open", failed(x.Put(1, "a", ""))+failed(x.Commit()), "error 13error 13")
		want(t, what+", it is rolled back", fmt.Sprint(s.Tx(), s.Pages()), fmt.Sprint(1, pages))
		want(t, what+", the store has failed", begin(s), "error 13")
		want(t, what+", Reopen", s.Reopen(), api.OK)
		x = begun(t, s)
		// The meta is written by the last operation but one.
		all := op == ops-1
		want(t, what+", Tx", s.Tx(), map[bool]int{false: 1, true: 2}[all])
		m = maps.Clone(before)
		if all {
			m = maps.Clone(behind)
		}
		seen[s.Tx()-1]++
		if op%8 == 0 || op > ops-5 {
			holds(t, what+", opened anew", x, m)
			rewritten(t, x, m)
			commit(t, x)
			holds(t, what+", and on", begun(t, s), m)
			holds(t, what+", and on, opened anew", begun(t, opened(t, d)), m)
		}
	}
	want(t, "both were seen", seen[0] > 0 && seen[1] > 0, true)
}

// P12.5: the power gone at each operation of a transaction's calls and of its commit, whatever sectors are kept: opened anew, all of it is there, or nothing; what told OK stays.
func TestCrashes(t *testing.T) {
	_, start, before := filled(t)
	behind := maps.Clone(before)
	r := rand.New(rand.NewSource(1))
	// whole is one transaction, till its end or its first error.
	whole := func(s *Store) api.Errno {
		x, e := s.Begin()
		if e != api.OK {
			return e
		}
		steps := []func() api.Errno{
			func() api.Errno { return x.Put(1, "a", text(2500, 1)) },
			func() api.Errno { return x.Put(0, "a", "0") },
			func() api.Errno { _, e := x.Clear(2, "key07"); return e },
			func() api.Errno { return x.Add(3, "k1", "newer") },
			func() api.Errno { _, e := x.Remove(3, "k2", "item05"); return e },
			func() api.Errno { _, e := x.Delete(255, "none"); return e },
			func() api.Errno { _, e := x.Range(255, "", "", 5); return e },
			func() api.Errno { return x.Put(255, "key119", text(700, 2)) },
			x.Commit,
		}
		for _, step := range steps {
			if e := step(); e != api.OK {
				x.Rollback()
				return e
			}
		}
		return api.OK
	}
	behind[at(1, "a")], behind[at(0, "a")], behind[at(255, "key119")] = text(2500, 1), "0", text(700, 2)
	behind.cleared(2, "key07")
	behind[at(3, "\x02k1newer")] = ""
	behind.cleared(3, "\x02k2item05")
	c := start.Copy()
	s := opened(t, c)
	ops := c.Ops()
	want(t, "without a fault", whole(s), api.OK)
	ops = c.Ops() - ops
	holds(t, "without a fault", begun(t, s), behind)

	seen := map[string]int{}
	for op := range ops + 1 {
		for kind := range 4 {
			// Till the last operations no meta has changed: one kind of picks for each is enough there.
			if op < ops-5 && kind != op%4 {
				continue
			}
			what := fmt.Sprintf("operation %d of %d, picks %d", op, ops, kind)
			d := start.Copy()
			s := opened(t, d)
			d.Arm(op)
			e := whole(s)
			want(t, what+", it is done", e == api.OK, op == ops)
			picks := make([]int, 4*ops)
			for i := range picks {
				picks[i] = []int{0, 1, i % 3, r.Int()}[kind]
			}
			d.Crash(picks...)
			// The same store goes on, or another one of the same device.
			if kind%2 == 0 {
				want(t, what+", Reopen", s.Reopen(), api.OK)
			} else {
				s = opened(t, d)
			}
			x := begun(t, s)
			switch {
			case s.Tx() == 1 && op < ops:
				seen["nothing"]++
				holds(t, what+", nothing", x, before)
			case s.Tx() == 2 && op >= ops-2:
				seen["all"]++
				holds(t, what+", all", x, behind)
			default:
				t.Fatalf("%s: Tx %d", what, s.Tx())
			}
		}
	}
	want(t, "both were seen", seen["nothing"] > 0 && seen["all"] > 0, true)
}

// P12.5: one transaction behind the other, each of them cut off somewhere, on one device: what is there is what the ones that count have done.
func TestManyCrashes(t *testing.T) {
	r := rand.New(rand.NewSource(2))
	d := disk.New(900)
	m := model{}
	for range 60 {
		d.Arm(r.Intn(120))
		next := maps.Clone(m)
		done := func() api.Errno {
			s, e := Open(d)
			if e != api.OK {
				return e
			}
			x, _ := s.Begin()
			for range 1 + r.Intn(12) {
				table, key := byte(r.Intn(3)), fmt.Sprint("key", r.Intn(60))
				value := text(r.Intn(2000), r.Intn(100))
				if r.Intn(4) == 0 {
					if _, e := x.Delete(table, key); e != api.OK {
						return e
					}
					delete(next, at(table, key))
					continue
				}
				if e := x.Put(table, key, value); e != api.OK {
					return e
				}
				next[at(table, key)] = value
			}
			return x.Commit()
		}()
		picks := make([]int, 400)
		for i := range picks {
			picks[i] = r.Int()
		}
		d.Crash(picks...)
		x := begun(t, opened(t, d))
		l := next
		if done != api.OK && !maps.Equal(m, next) && same(x, m) {
			l = m
		}
		holds(t, fmt.Sprint("behind ", failed(done)), x, l)
		m = l
	}
	want(t, "there are pairs in the end", len(m) > 20, true)
}

// same is whether a transaction sees just the model's pairs of the tables 0 to 2.
func same(x *Tx, m model) bool {
	for table := range byte(3) {
		if many(x.Range(table, "", "", 1000)) != m.some(table, m.keys(table)) {
			return false
		}
	}
	return true
}
