package kv

import (
	"fmt"
	"maps"
	"math/rand"
	"slices"
	"strings"
	"testing"

	"loess/api"
	"loess/disk"
)

// twin is a store beside a model of it, with the model of its last commit.
type twin struct {
	store     *Store
	tx        *Tx
	device    *disk.Disk
	now, last model
}

// key is one of few, so that keys meet each other in all tables.
func key(r *rand.Rand) string {
	k := ""
	for range r.Intn(4) {
		k += string([]byte{"\x00\x01\x02ab\xff"[r.Intn(6)]})
	}
	if r.Intn(12) == 0 {
		k += strings.Repeat("k", r.Intn(140))
	}
	return k
}

func table(r *rand.Rand) byte {
	return []byte{0, 1, 2, 9, 254, 255}[r.Intn(6)]
}

// change makes a call that changes something, of both, and is what each tells.
func (w *twin) change(r *rand.Rand) (string, string, string) {
	n, k := table(r), key(r)
	switch r.Intn(12) {
	case 0, 1, 2, 3:
		v := text(r.Intn(30), r.Intn(100))
		if r.Intn(6) == 0 {
			v = text(r.Intn(1500), r.Intn(100))
		}
		what := fmt.Sprintf("Put(%d, %q, %d bytes)", n, k, len(v))
		if len(k) > 127 {
			return what, failed(w.tx.Put(n, k, v)), "error 11"
		}
		w.now[at(n, k)] = v
		return what, failed(w.tx.Put(n, k, v)), "OK"
	case 4, 5:
		_, there := w.now[at(n, k)]
		delete(w.now, at(n, k))
		return fmt.Sprintf("Delete(%d, %q)", n, k), was(w.tx.Delete(n, k)), fmt.Sprint(there)
	case 6:
		// The empty prefix would leave too little.
		k += string([]byte{"\x00\x01\x02ab\xff"[r.Intn(6)]})
		return fmt.Sprintf("Clear(%d, %q)", n, k), count(w.tx.Clear(n, k)), fmt.Sprint(w.now.cleared(n, k))
	case 7, 8, 9:
		item := key(r)
		what := fmt.Sprintf("Add(%d, %q, %q)", n, k, item)
		if len(k)+len(item) > 125 {
			return what, failed(w.tx.Add(n, k, item)), "error 11"
		}
		w.now[at(n, string([]byte{byte(len(k))})+k+item)] = ""
		return what, failed(w.tx.Add(n, k, item)), "OK"
	default:
		item := key(r)
		whole := at(n, string([]byte{byte(len(k))})+k+item)
		_, there := w.now[whole]
		delete(w.now, whole)
		return fmt.Sprintf("Remove(%d, %q, %q)", n, k, item), was(w.tx.Remove(n, k, item)), fmt.Sprint(there)
	}
}

// ask makes a call that asks, of both, and is what each tells.
func (w *twin) ask(r *rand.Rand) (string, string, string) {
	n, k := table(r), key(r)
	keys := w.now.keys(n)
	place, _ := slices.BinarySearch(keys, k)
	switch r.Intn(6) {
	case 0:
		return fmt.Sprintf("Get(%d, %q)", n, k), got(w.tx.Get(n, k)), w.now.get(n, k)
	case 1:
		return fmt.Sprintf("Seek(%d, %q)", n, k), pair(w.tx.Seek(n, k)), w.now.one(n, keys, place)
	case 2:
		return fmt.Sprintf("Before(%d, %q)", n, k), pair(w.tx.Before(n, k)), w.now.one(n, keys, place-1)
	case 3:
		return fmt.Sprintf("Last(%d)", n), pair(w.tx.Last(n)), w.now.one(n, keys, len(keys)-1)
	case 4:
		to, most := key(r), r.Intn(12)-2
		end, _ := slices.BinarySearch(keys, to)
		if to == "" {
			end = len(keys)
		}
		end = min(end, place+max(most, 0))
		return fmt.Sprintf("Range(%d, %q, %q, %d)", n, k, to, most), many(w.tx.Range(n, k, to, most)), w.now.some(n, keys[place:max(place, end)])
	default:
		prefix := string([]byte{byte(len(k))}) + k
		l := []string{}
		for _, whole := range keys {
			if item, ok := strings.CutPrefix(whole, prefix); ok {
				l = append(l, item)
			}
		}
		return fmt.Sprintf("Items(%d, %q)", n, k), items(w.tx.Items(n, k)), items(l, api.OK)
	}
}

// end ends the transaction in one of all ways, and begins the next one.
func (w *twin) end(t *testing.T, r *rand.Rand) {
	t.Helper()
	switch r.Intn(5) {
	case 0, 1:
		before := w.store.Tx()
		want(t, "Commit", w.tx.Commit(), api.OK)
		w.last = maps.Clone(w.now)
		want(t, "a commit more, or none", w.store.Tx()-before <= 1, true)
	case 2:
		w.tx.Rollback()
	case 3:
		w.tx.Rollback()
		w.device.Crash()
		want(t, "Reopen", w.store.Reopen(), api.OK)
	default:
		// The power goes ahead of the meta: nothing is there.
		tx := w.store.Tx()
		w.device.Arm(0)
		e := w.tx.Commit()
		w.device.Crash(1, 1, 1, 1)
		if e == api.OK {
			// There was no change.
			w.last = maps.Clone(w.now)
			break
		}
		want(t, "Commit without power", fmt.Sprint(failed(e), " ", begin(w.store)), "error 15 error 13")
		want(t, "Reopen", w.store.Reopen(), api.OK)
		want(t, "Tx", w.store.Tx(), tx)
	}
	w.now = maps.Clone(w.last)
	w.tx = begun(t, w.store)
}

// P12.2 to P12.5: calls by chance, held against a plain map.
func TestReference(t *testing.T) {
	for seed := range int64(12) {
		r := rand.New(rand.NewSource(seed))
		d := disk.New(1500)
		s := opened(t, d)
		w := &twin{store: s, device: d, tx: begun(t, s), now: model{}, last: model{}}
		for step := range 1500 {
			tell := w.ask
			if r.Intn(2) == 0 {
				tell = w.change
			}
			what, got, right := tell(r)
			if got != right {
				t.Fatalf("seed %d, step %d, %s: %.200s, want %.200s", seed, step, what, got, right)
			}
			if r.Intn(60) == 0 {
				w.end(t, r)
				holds(t, fmt.Sprintf("seed %d, step %d", seed, step), w.tx, w.now)
			}
		}
		want(t, "there were pairs", len(w.last) > 50, true)
	}
}
