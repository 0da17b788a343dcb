package tree

import (
	"fmt"
	"maps"
	"math/rand"
	"strings"
	"testing"

	"loess/api"
	"loess/disk"
)

// rewritten changes a tree and a model in all ways: new pairs, other values, great ones, pairs that are no more.
func rewritten(t *testing.T, x *Tree, m model) {
	t.Helper()
	for i, k := range m.keys() {
		switch {
		case i%9 == 0:
			drop(t, x, m, k)
		case i%14 == 1:
			put(t, x, m, k, text(i*11, i+1))
		case i%17 == 2:
			put(t, x, m, k+"new", text(i, i+2))
		}
	}
}

// P11.5: opened anew behind a commit, behind a rollback, behind changes that nobody committed: the pairs are those of the last commit.
func TestOpenedAnew(t *testing.T) {
	x, p, d, m := some(t)
	old := maps.Clone(m)
	again := func(what string, m model) {
		t.Helper()
		y, q := opened(t, d.Copy())
		holds(t, what, y, m)
		want(t, what+", Meta", q.Meta(), p.Meta())
		c := d.Copy()
		c.Crash()
		y, _ = opened(t, c)
		holds(t, what+", behind a crash", y, m)
	}
	again("a commit", m)
	rewritten(t, x, m)
	again("changes", old)
	x.Rollback()
	again("a rollback", old)
	m = maps.Clone(old)
	rewritten(t, x, m)
	commit(t, x)
	again("another commit", m)
	holds(t, "another commit, not opened", x, m)
	for _, k := range m.keys() {
		drop(t, x, m, k)
	}
	commit(t, x)
	again("a commit of nothing", m)
	put(t, x, m, "a", "1")
	commit(t, x)
	again("a commit behind nothing", m)
}

// P11.5: the power gone, or a fault, at each operation of a commit, with whatever sectors kept: opened anew, there are the pairs of ahead of it or of behind it; a commit that told OK stays; and the tree goes on from there.
func TestCrashes(t *testing.T) {
	base, _, start, before := some(t)
	behind := maps.Clone(before)
	rewritten(t, base, behind)
	ops := base.made.count() + 3
	seen := map[string]int{}
	r := rand.New(rand.NewSource(1))
	for op := range ops + 1 {
		for kind := range 4 {
			// Till the last operations no meta has changed: one kind of picks for each is enough there.
			if op < ops-5 && kind != op%4 {
				continue
			}
			d := start.Copy()
			x, p := opened(t, d)
			m := maps.Clone(before)
			rewritten(t, x, m)
			what := fmt.Sprintf("operation %d of %d, picks %d", op, ops, kind)
			if op/4%2 == 0 || kind > 1 {
				d.Arm(op)
			} else {
				d.Fail(op + 1)
			}
			e := x.Commit()
			want(t, what+", it is done", e == api.OK, op == ops)
			want(t, what+", Broken", p.Broken(), op >= ops-3 && op < ops)
			if op == ops {
				// One more that is cut off: what it has written must stand on pages that the one ahead does not need.
				d.Clear()
				rewritten(t, x, m)
				d.Arm(x.made.count())
				want(t, what+", the next one", x.Commit(), api.ErrPower)
			}
			picks := make([]int, 4*ops*2)
			for i := range picks {
				picks[i] = []int{0, 1, i % 3, r.Int()}[kind]
			}
			d.Crash(picks...)
			y, q := opened(t, d)
			switch {
			case q.Meta().Tx == 1 && op < ops:
				holds(t, what+", ahead", y, before)
				seen["ahead"]++
			case q.Meta().Tx == 2:
				holds(t, what+", behind", y, behind)
				seen["behind"]++
				want(t, what+", behind, not too early", op >= ops-2, true)
			default:
				t.Fatalf("%s: Tx %d", what, q.Meta().Tx)
			}
			if op%12 == 0 || op > ops-4 {
				m := model{}
				for _, k := range behind.keys() {
					if v, ok, _ := y.Get(k); ok {
						m[k] = v
					}
				}
				for _, k := range before.keys() {
					if v, ok, _ := y.Get(k); ok {
						m[k] = v
					}
				}
				rewritten(t, y, m)
				commit(t, y)
				d.Crash()
				y, _ = opened(t, d)
				holds(t, what+", and on", y, m)
			}
		}
	}
	want(t, "both were seen", seen["ahead"] > 0 && seen["behind"] > 0, true)
}

// P11.5 and P10.5: pages that pairs need no more are used again: never more than the greatest tree's, twice those of the greatest transaction, and 2.
func TestPagesAreUsedAgain(t *testing.T) {
	for _, reopened := range []bool{false, true} {
		d := disk.New(2000)
		x, p := opened(t, d)
		m := model{}
		greatest, most := 0, 0
		for round := range 120 {
			for i := range 12 {
				at := (round*7 + i*31) % 90
				k := fmt.Sprintf("key%02d", at) + strings.Repeat("k", at)
				switch _, there := m[k]; {
				case there && round%3 == 0:
					drop(t, x, m, k)
				case round%5 == 0:
					put(t, x, m, k, text(at*31, round))
				default:
					put(t, x, m, k, text(at*2, round))
				}
			}
			if round%10 == 9 {
				x.Rollback()
				m = model{}
				for k, v, ok, _ := x.Seek(""); ok; k, v, ok, _ = x.Seek(k + "\x00") {
					m[k] = v
				}
				continue
			}
			most = max(most, x.made.count())
			commit(t, x)
			greatest = max(greatest, x.Pages())
			if bound := greatest + 2*most + 2; d.Used() > bound || p.Meta().Pages > bound {
				t.Fatalf("round %d: %d pages were written, %d used, of at most %d", round, d.Used(), p.Meta().Pages, bound)
			}
			want(t, "each page is the tree's or spare", p.Spare()+x.Pages()+2, p.Meta().Pages)
			if reopened {
				x, p = opened(t, d)
				want(t, "each page is the tree's or spare, opened anew", p.Spare()+x.Pages()+2, p.Meta().Pages)
			}
		}
		holds(t, "in the end", x, m)
		want(t, "there were some pages", greatest > 20 && most > 10, true)
	}
	// One pair, of a great value, over and over: no more than two such trees at the same time.
	d := disk.New(200)
	x, p := opened(t, d)
	m := model{}
	for i := range 50 {
		put(t, x, m, "k", text(20000+i, i))
		commit(t, x)
	}
	holds(t, "over and over", x, m)
	want(t, "Pages", fmt.Sprint(x.Pages(), p.Meta().Pages, d.Used()), "21 44 44")
	for i := range 50 {
		put(t, x, m, "k", text(20000+i, i))
	}
	commit(t, x)
	want(t, "Pages of one transaction", fmt.Sprint(x.Pages(), p.Meta().Pages, d.Used()), "21 44 44")
}

// P11.3: within one transaction, too, pages that are needed no more are used again.
func TestPagesAreUsedAgainAtOnce(t *testing.T) {
	x, p := opened(t, disk.New(60))
	m := model{}
	for round := range 40 {
		for i := range 30 {
			put(t, x, m, fmt.Sprintf("key%02d", i*7%30), text(i*13+round*17%100, i))
		}
		for i := range 30 {
			drop(t, x, m, fmt.Sprintf("key%02d", i*11%30))
		}
		want(t, "Pages", x.Pages(), 0)
	}
	put(t, x, m, "a", "1")
	commit(t, x)
	want(t, "pages that were ever used: as many as 30 pairs need", p.Meta().Pages < 50, true)
	holds(t, "in the end", x, m)
}
