package tree

import (
	"fmt"
	"maps"
	"math/rand"
	"strings"
	"testing"

	"loess/api"
	"loess/disk"
	"loess/pager"
)

// twin is a tree on a device, and what it should tell: the pairs as of the last commit, and with the changes.
type twin struct {
	d         *disk.Disk
	p         *pager.Pager
	x         *Tree
	last, now model
	r         *rand.Rand
	keys      func(n int) string
}

func (w *twin) open(t *testing.T) {
	t.Helper()
	w.x, w.p = opened(t, w.d)
	w.now = maps.Clone(w.last)
}

func (w *twin) key() string {
	return w.keys(w.r.Intn(200))
}

func (w *twin) value() string {
	sizes := []int{0, 1, 10, 100, 199, 200, 201, 500, 1009, 1010, 2500}
	return text(sizes[w.r.Intn(len(sizes))], w.r.Intn(100))
}

// step is one call, any one, held against the model.
func (w *twin) step(t *testing.T) {
	t.Helper()
	keys := w.now.keys()
	k := w.key()
	if w.r.Intn(3) == 0 && len(keys) > 0 {
		k = keys[w.r.Intn(len(keys))]
	}
	switch w.r.Intn(12) {
	case 0, 1, 2, 3:
		v := w.value()
		e := w.x.Put(k, v)
		if e == api.OK {
			w.now[k] = v
		} else {
			want(t, "Put", e, api.ErrFull)
		}
	case 4, 5, 6:
		s := deleted(w.x.Delete(k))
		_, there := w.now[k]
		if s != "error 16" {
			want(t, fmt.Sprintf("Delete(%q)", k), s, fmt.Sprint(there))
			delete(w.now, k)
		} else {
			want(t, "Delete without room of one that was there", there, true)
		}
	case 7:
		want(t, "Get", got(w.x.Get(k)), w.now.get(k))
	case 8:
		want(t, "Seek", pair(w.x.Seek(k)), w.now.seek(keys, k))
	case 9:
		want(t, "Before", pair(w.x.Before(k)), w.now.before(keys, k))
	case 10:
		want(t, "Last", pair(w.x.Last()), w.now.at(keys, len(keys)-1))
	case 11:
		want(t, "Len", w.x.Len(), len(w.now))
	}
}

// finish is Commit, Rollback, or an opening without either.
func (w *twin) finish(t *testing.T) {
	t.Helper()
	switch w.r.Intn(6) {
	case 0:
		w.x.Rollback()
		w.now = maps.Clone(w.last)
	case 1:
		w.open(t)
	case 2:
		w.faulty(t)
	default:
		want(t, "Commit", w.x.Commit(), api.OK)
		w.last = maps.Clone(w.now)
		want(t, "Entries", w.p.Meta().Entries, len(w.now))
	}
}

// faulty is a commit with a fault at any operation, and a crash with any sectors kept.
func (w *twin) faulty(t *testing.T) {
	t.Helper()
	tx := w.p.Meta().Tx
	op := w.r.Intn(w.x.made.count() + 4)
	if w.r.Intn(2) == 0 {
		w.d.Arm(op)
	} else {
		w.d.Fail(op + 1)
	}
	e := w.x.Commit()
	picks := make([]int, 4*w.r.Intn(80))
	for i := range picks {
		picks[i] = w.r.Int()
	}
	w.d.Crash(picks...)
	now := w.now
	p, _ := pager.Open(w.d)
	if e == api.OK {
		want(t, "it lasts", p.Meta().Tx, w.p.Meta().Tx)
	}
	if e == api.OK || p.Meta().Tx > tx {
		w.last = maps.Clone(now)
	}
	w.open(t)
}

// P11.1 to P11.5: calls in any order, with faults and crashes between them, on devices with room and without, held against a plain map.
func TestReference(t *testing.T) {
	kinds := []func(n int) string{
		func(n int) string { return fmt.Sprintf("%03d", n) },
		func(n int) string { return fmt.Sprintf("%03d", n) + strings.Repeat("k", 125) },
		func(n int) string { return strings.Repeat("k", n%126) + fmt.Sprint(n%100) },
		func(n int) string { return string([]byte{byte(n * 7), byte(n)}[n%2:]) },
	}
	for seed := range 24 {
		r := rand.New(rand.NewSource(int64(seed)))
		w := &twin{d: disk.New([]int{30, 90, 1000}[seed%3]), r: r, last: model{}, keys: kinds[seed%len(kinds)]}
		w.open(t)
		for range 25 {
			for range 5 + r.Intn(60) {
				w.step(t)
			}
			holds(t, fmt.Sprintf("seed %d, with changes", seed), w.x, w.now)
			w.finish(t)
			holds(t, fmt.Sprintf("seed %d", seed), w.x, w.now)
			if t.Failed() {
				t.Fatalf("seed %d", seed)
			}
		}
	}
}

// R4: the same calls have the same answers, and the same operations on the device, in the same order.
func TestSameAgain(t *testing.T) {
	trace := func(stop int) string {
		x, p, d, m := some(t)
		rewritten(t, x, m)
		d.Arm(stop)
		x.Commit()
		var all strings.Builder
		fmt.Fprint(&all, p.Meta(), p.Spare(), x.Pages(), d.Ops())
		d.Crash(make([]int, 1000)...)
		picks := make([]int, 1000)
		for i := range picks {
			picks[i] = 1
		}
		x, p, d, m = some(t)
		rewritten(t, x, m)
		d.Arm(stop)
		x.Commit()
		d.Crash(picks...)
		for n := range d.Used() {
			s, _ := d.Read(n)
			all.WriteString(s)
		}
		return all.String()
	}
	for stop := range 30 {
		want(t, fmt.Sprintf("%d operations", stop), trace(stop) == trace(stop), true)
	}
}
