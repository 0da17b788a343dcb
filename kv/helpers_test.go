package kv

import (
	"fmt"
	"maps"
	"slices"
	"strings"
	"testing"

	"loess/api"
	"loess/disk"
)

func want[T comparable](t *testing.T, what string, got, want T) {
	t.Helper()
	if got != want {
		t.Errorf("%s: %.300q, want %.300q", what, fmt.Sprint(got), fmt.Sprint(want))
	}
}

func opened(t *testing.T, d *disk.Disk) *Store {
	t.Helper()
	s, e := Open(d)
	if e != api.OK || s == nil {
		t.Fatalf("Open: error %d", e)
	}
	return s
}

func begun(t *testing.T, s *Store) *Tx {
	t.Helper()
	x, e := s.Begin()
	if e != api.OK || x == nil {
		t.Fatalf("Begin: error %d", e)
	}
	return x
}

// begin is what Begin tells, as a text.
func begin(s *Store) string {
	x, e := s.Begin()
	if (x == nil) != (e != api.OK) {
		return fmt.Sprintf("a transaction beside error %d, or none", e)
	}
	return failed(e)
}

func failed(e api.Errno) string {
	if e == api.OK {
		return "OK"
	}
	return fmt.Sprintf("error %d", e)
}

// pair is what Seek, Before and Last tell, as a text.
func pair(p api.Pair, ok bool, e api.Errno) string {
	if (e != api.OK || !ok) && p != (api.Pair{}) || e != api.OK && ok {
		return fmt.Sprintf("%q %v beside error %d", p, ok, e)
	}
	if e != api.OK {
		return failed(e)
	}
	if !ok {
		return "none"
	}
	return fmt.Sprintf("%q=%q", p.Key, p.Value)
}

// got is what Get tells, as a text.
func got(value string, ok bool, e api.Errno) string {
	if e != api.OK || !ok {
		return pair(api.Pair{Value: value}, ok, e)
	}
	return fmt.Sprintf("%q", value)
}

// was is what Delete and Remove tell, as a text.
func was(ok bool, e api.Errno) string {
	if e != api.OK {
		return pair(api.Pair{}, ok, e)
	}
	return fmt.Sprint(ok)
}

// many is what Range tells, as a text.
func many(l []api.Pair, e api.Errno) string {
	if e != api.OK {
		if len(l) > 0 {
			return fmt.Sprintf("%d pairs beside error %d", len(l), e)
		}
		return failed(e)
	}
	var all []string
	for _, p := range l {
		all = append(all, pair(p, true, api.OK))
	}
	return strings.Join(all, " ")
}

// items is what Items tells, as a text.
func items(l []string, e api.Errno) string {
	if e != api.OK {
		if len(l) > 0 {
			return fmt.Sprintf("%d items beside error %d", len(l), e)
		}
		return failed(e)
	}
	return fmt.Sprintf("%q", l)
}

// count is what Clear tells, as a text.
func count(n int, e api.Errno) string {
	if e != api.OK {
		if n != 0 {
			return fmt.Sprintf("%d beside error %d", n, e)
		}
		return failed(e)
	}
	return fmt.Sprint(n)
}

// calls is every call of a transaction that tells an error, as a text.
func calls(x *Tx) map[string]func() string {
	return map[string]func() string{
		"Get":                   func() string { return got(x.Get(1, "a")) },
		"Put":                   func() string { return failed(x.Put(1, "a", "x")) },
		"Put of too long a key": func() string { return failed(x.Put(1, text(128, 1), "x")) },
		"Delete":                func() string { return was(x.Delete(1, "a")) },
		"Seek":                  func() string { return pair(x.Seek(1, "a")) },
		"Before":                func() string { return pair(x.Before(1, "z")) },
		"Last":                  func() string { return pair(x.Last(1)) },
		"Last of table 255":     func() string { return pair(x.Last(255)) },
		"Range":                 func() string { return many(x.Range(1, "", "", 9)) },
		"Range of none":         func() string { return many(x.Range(1, "", "", 0)) },
		"Range from behind to":  func() string { return many(x.Range(1, "b", "a", 9)) },
		"Clear":                 func() string { return count(x.Clear(1, "")) },
		"Add":                   func() string { return failed(x.Add(3, "k", "i")) },
		"Add of too much":       func() string { return failed(x.Add(3, "k", text(125, 1))) },
		"Items":                 func() string { return items(x.Items(3, "k")) },
		"Remove":                func() string { return was(x.Remove(3, "k", "i")) },
		"Commit":                func() string { return failed(x.Commit()) },
	}
}

// model is pairs as a plain map has them: by the table's byte and the key.
type model map[string]string

func at(table byte, key string) string {
	return string([]byte{table}) + key
}

// keys is a table's keys, rising.
func (m model) keys(table byte) []string {
	var l []string
	for k := range m {
		if k[0] == table {
			l = append(l, k[1:])
		}
	}
	slices.Sort(l)
	return l
}

// tables is those that have pairs, and their neighbours.
func (m model) tables() []byte {
	all := map[byte]int{0: 0, 255: 0}
	for k := range m {
		all[k[0]-1], all[k[0]], all[k[0]+1] = 0, 0, 0
	}
	return slices.Sorted(maps.Keys(all))
}

// some is the pairs of these keys of a table, as Range tells them.
func (m model) some(table byte, keys []string) string {
	var l []api.Pair
	for _, k := range keys {
		l = append(l, api.Pair{Key: k, Value: m[at(table, k)]})
	}
	return many(l, api.OK)
}

// one is the pair of the key at a place, as Seek, Before and Last tell it.
func (m model) one(table byte, keys []string, place int) string {
	if place < 0 || place >= len(keys) {
		return "none"
	}
	return m.some(table, keys[place:place+1])
}

func (m model) get(table byte, key string) string {
	if v, ok := m[at(table, key)]; ok {
		return fmt.Sprintf("%q", v)
	}
	return "none"
}

// cleared takes the pairs of keys with a prefix away, and is how many these were.
func (m model) cleared(table byte, prefix string) int {
	size := len(m)
	maps.DeleteFunc(m, func(k, _ string) bool { return strings.HasPrefix(k, at(table, prefix)) })
	return size - len(m)
}

// holds is whether a transaction sees just the model's pairs, in each table and its neighbours, by each call that asks.
func holds(t *testing.T, what string, x *Tx, m model) {
	t.Helper()
	for _, table := range m.tables() {
		keys := m.keys(table)
		what := fmt.Sprintf("%s, table %d", what, table)
		want(t, what+", Range", many(x.Range(table, "", "", len(m)+1)), m.some(table, keys))
		want(t, what+", Last", pair(x.Last(table)), m.one(table, keys, len(keys)-1))
		want(t, what+", Seek of nothing", pair(x.Seek(table, "")), m.one(table, keys, 0))
		want(t, what+", Before nothing", pair(x.Before(table, "")), "none")
		if t.Failed() {
			t.FailNow()
		}
	}
	if n := x.tree.Len(); n != len(m) || x.tree.Check() != api.OK {
		t.Fatalf("%s: %d pairs, want %d; Check %d", what, n, len(m), x.tree.Check())
	}
}

// asked holds each call that asks against the model, for each of these keys.
func asked(t *testing.T, what string, x *Tx, m model, table byte, probes ...string) {
	t.Helper()
	keys := m.keys(table)
	for _, k := range probes {
		place, found := slices.BinarySearch(keys, k)
		what := fmt.Sprintf("%s, table %d, %.20q", what, table, k)
		want(t, what+", Get", got(x.Get(table, k)), m.get(table, k))
		want(t, what+", there", found, m.get(table, k) != "none")
		want(t, what+", Seek", pair(x.Seek(table, k)), m.one(table, keys, place))
		want(t, what+", Before", pair(x.Before(table, k)), m.one(table, keys, place-1))
		want(t, what+", Range", many(x.Range(table, k, "", 3)), m.some(table, keys[place:min(place+3, len(keys))]))
	}
}

// text is so many bytes that differ from each other, and from those of another seed.
func text(size, seed int) string {
	b := make([]byte, size)
	for i := range b {
		b[i] = byte(i*7 + i/251 + seed*31)
	}
	return string(b)
}

func put(t *testing.T, x *Tx, m model, table byte, key, value string) {
	t.Helper()
	if e := x.Put(table, key, value); e != api.OK {
		t.Fatalf("Put(%d, %.40q, %d bytes): error %d", table, key, len(value), e)
	}
	m[at(table, key)] = value
}

func add(t *testing.T, x *Tx, m model, table byte, key, item string) {
	t.Helper()
	if e := x.Add(table, key, item); e != api.OK {
		t.Fatalf("Add(%d, %.40q, %.40q): error %d", table, key, item, e)
	}
	m[at(table, string([]byte{byte(len(key))})+key+item)] = ""
}

func commit(t *testing.T, x *Tx) {
	t.Helper()
	if e := x.Commit(); e != api.OK {
		t.Fatalf("Commit: error %d", e)
	}
}

// filled is a store of some hundred pairs in five tables, three levels deep, some of whose values have pages of their own, and some of which are items; all of it is committed.
func filled(t *testing.T) (*Store, *disk.Disk, model) {
	t.Helper()
	d := disk.New(600)
	s := opened(t, d)
	x := begun(t, s)
	m := model{}
	for i := range 120 {
		k := i * 37 % 120
		put(t, x, m, []byte{0, 1, 2, 255}[i%4], fmt.Sprintf("key%03d", k)+strings.Repeat("k", 60), text(k%200, k))
	}
	for i, size := range []int{201, 1010, 3000} {
		put(t, x, m, byte(i), fmt.Sprintf("key%03dlong", i*40+3), text(size, i))
	}
	for i := range 40 {
		add(t, x, m, 3, fmt.Sprintf("k%d", i%3), fmt.Sprintf("item%02d", i*17%40))
	}
	commit(t, x)
	return s, d, m
}
