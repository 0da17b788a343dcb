package tree

import (
	"fmt"
	"maps"
	"slices"
	"strings"
	"testing"

	"loess/api"
	"loess/disk"
	"loess/node"
	"loess/page"
	"loess/pager"
)

func want[T comparable](t *testing.T, what string, got, want T) {
	t.Helper()
	if got != want {
		t.Errorf("%s: %.300q, want %.300q", what, fmt.Sprint(got), fmt.Sprint(want))
	}
}

// opened is the tree of a device, and its pager.
func opened(t *testing.T, d *disk.Disk) (*Tree, *pager.Pager) {
	t.Helper()
	p, e := pager.Open(d)
	if e != api.OK {
		t.Fatalf("pager.Open: error %d", e)
	}
	x, e := Open(p)
	if e != api.OK || x == nil {
		t.Fatalf("Open: error %d", e)
	}
	return x, p
}

// tried is what Open tells of a device whose metas are right.
func tried(t *testing.T, d *disk.Disk) string {
	t.Helper()
	p, e := pager.Open(d)
	if e != api.OK {
		t.Fatalf("pager.Open: error %d", e)
	}
	x, e := Open(p)
	if (x == nil) != (e != api.OK) {
		t.Errorf("Open: a tree with error %d, or none", e)
	}
	if e != api.OK {
		return fmt.Sprint("error ", int(e))
	}
	return fmt.Sprint(x.Len(), " pairs on ", x.Pages(), " pages, Check ", int(x.Check()))
}

// model is pairs as a plain map has them.
type model map[string]string

func (m model) keys() []string {
	return slices.Sorted(maps.Keys(m))
}

// pair is what Seek, Before and Last tell, as a text.
func pair(key, value string, ok bool, e api.Errno) string {
	if e != api.OK || !ok {
		if key != "" || value != "" || e != api.OK && ok {
			return fmt.Sprintf("%q %q %v beside error %d", key, value, ok, e)
		}
		if e != api.OK {
			return fmt.Sprintf("error %d", e)
		}
		return "none"
	}
	return fmt.Sprintf("%q %q", key, value)
}

// got is what Get tells, as a text.
func got(value string, ok bool, e api.Errno) string {
	if e != api.OK || !ok {
		return pair("", value, ok, e)
	}
	return fmt.Sprintf("%q", value)
}

// deleted is what Delete tells, as a text.
func deleted(ok bool, e api.Errno) string {
	if e != api.OK {
		return pair("", "", ok, e)
	}
	return fmt.Sprint(ok)
}

// get, seek and before are what the model has for these calls.
func (m model) get(key string) string {
	if v, ok := m[key]; ok {
		return fmt.Sprintf("%q", v)
	}
	return "none"
}

func (m model) at(keys []string, at int) string {
	if at < 0 || at >= len(keys) {
		return "none"
	}
	return fmt.Sprintf("%q %q", keys[at], m[keys[at]])
}

func (m model) seek(keys []string, key string) string {
	at, _ := slices.BinarySearch(keys, key)
	return m.at(keys, at)
}

func (m model) before(keys []string, key string) string {
	at, _ := slices.BinarySearch(keys, key)
	return m.at(keys, at-1)
}

// holds is whether a tree has just the model's pairs, is one, and tells them forwards and backwards.
func holds(t *testing.T, what string, x *Tree, m model) {
	t.Helper()
	if n, e := x.Len(), x.Check(); n != len(m) || e != api.OK {
		t.Fatalf("%s: Len %d, Check %d, want %d pairs", what, n, e, len(m))
	}
	keys := m.keys()
	// Texts are made of what is wrong alone: there are many pairs, and great ones.
	right := func(i int, k, v string, ok bool, e api.Errno) {
		t.Helper()
		if i < 0 || i >= len(keys) || !ok || e != api.OK || k != keys[i] || v != m[k] {
			if s := pair(k, v, ok, e); s != m.at(keys, i) {
				t.Fatalf("%s: pair %d: %.300s, want %.300s", what, i, s, m.at(keys, i))
			}
		}
	}
	k, v, ok, e := x.Seek("")
	for i := range len(keys) + 1 {
		right(i, k, v, ok, e)
		k, v, ok, e = x.Seek(k + "\x00")
	}
	k, v, ok, e = x.Last()
	for i := len(keys) - 1; i >= -1; i-- {
		right(i, k, v, ok, e)
		k, v, ok, e = x.Before(k)
	}
}

// asked holds each call that asks against the model, for each of these keys.
func asked(t *testing.T, what string, x *Tree, m model, probes ...string) {
	t.Helper()
	keys := m.keys()
	for _, k := range probes {
		want(t, fmt.Sprintf("%s, Get(%q)", what, k), got(x.Get(k)), m.get(k))
		want(t, fmt.Sprintf("%s, Seek(%q)", what, k), pair(x.Seek(k)), m.seek(keys, k))
		want(t, fmt.Sprintf("%s, Before(%q)", what, k), pair(x.Before(k)), m.before(keys, k))
	}
	want(t, what+", Last", pair(x.Last()), m.at(keys, len(keys)-1))
	want(t, what+", Len", x.Len(), len(m))
}

// text is so many bytes that differ from each other, and from those of another seed.
func text(size, seed int) string {
	b := make([]byte, size)
	for i := range b {
		b[i] = byte(i*7 + i/251 + seed*31)
	}
	return string(b)
}

// put puts a pair into a tree and into a model.
func put(t *testing.T, x *Tree, m model, key, value string) {
	t.Helper()
	if e := x.Put(key, value); e != api.OK {
		t.Fatalf("Put(%.40q, %d bytes): error %d", key, len(value), e)
	}
	m[key] = value
}

// drop deletes a pair from both; it must have been there.
func drop(t *testing.T, x *Tree, m model, key string) {
	t.Helper()
	if s := deleted(x.Delete(key)); s != "true" {
		t.Fatalf("Delete(%.40q): %s", key, s)
	}
	delete(m, key)
}

func commit(t *testing.T, x *Tree) {
	t.Helper()
	if e := x.Commit(); e != api.OK {
		t.Fatalf("Commit: error %d", e)
	}
}

// some is a tree of some hundred pairs, three levels deep, some of whose values have pages of their own; all of it is committed.
func some(t *testing.T) (*Tree, *pager.Pager, *disk.Disk, model) {
	t.Helper()
	d := disk.New(400)
	x, p := opened(t, d)
	m := model{}
	for i := range 150 {
		k := i * 37 % 150
		put(t, x, m, fmt.Sprintf("key%03d", k)+strings.Repeat("k", 90), text(k%200, k))
	}
	for i, size := range []int{201, 1009, 1010, 3000} {
		put(t, x, m, fmt.Sprintf("key%03dlong", i*40+3), text(size, i))
	}
	commit(t, x)
	if x.now.deep != 2 {
		t.Fatalf("%d branches above each leaf", x.now.deep)
	}
	return x, p, d, m
}

func sealed(kind byte, body string) string {
	s, e := page.Seal(kind, body)
	if e != api.OK {
		panic("no body")
	}
	return s
}

// leaf is a leaf's page with these keys, each with itself as its value.
func leaf(keys ...string) string {
	n := api.Node{Leaf: true}
	for _, k := range keys {
		n.Cells = append(n.Cells, api.Cell{Key: k, Value: k, Size: len(k)})
	}
	return nodePage(n)
}

// branch is a branch's page.
func branch(cells ...api.Cell) string {
	return nodePage(api.Node{Cells: cells})
}

// long is a leaf's page with cells whose values stand elsewhere.
func long(cells ...api.Cell) string {
	return nodePage(api.Node{Leaf: true, Cells: cells})
}

func nodePage(n api.Node) string {
	body, e := node.Bytes(n)
	if e != api.OK {
		panic("no node")
	}
	if n.Leaf {
		return sealed('L', body)
	}
	return sealed('B', body)
}

func to(key string, page int) api.Cell {
	return api.Cell{Key: key, Page: page}
}

func apart(key string, page, size int) api.Cell {
	return api.Cell{Key: key, Page: page, Size: size}
}

// piece is the page of a value's part.
func piece(next int, text string) string {
	return sealed('V', string([]byte{byte(next >> 24), byte(next >> 16), byte(next >> 8), byte(next)})+text)
}

// laid is a device with these pages, all of which last.
func laid(pages int, m api.Meta, l map[int]string) *disk.Disk {
	d := disk.New(pages)
	meta, e := page.Meta(m)
	if e != api.OK {
		panic("no meta")
	}
	d.Write(0, meta)
	for n, s := range l {
		d.Write(n, s)
	}
	d.Sync()
	return d
}
