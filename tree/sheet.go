package tree

import (
	"maps"
	"slices"

	"loess/api"
	"loess/node"
)

const (
	leafKind   = 'L'
	branchKind = 'B'
	partKind   = 'V'
	linkSize   = 4 // bytes of the next part's page, ahead of a part's own
	partSize   = api.MaxBody - linkSize
)

// part is a piece of a value that is too great for its leaf.
type part struct {
	next int // the next one's page; 0: it is the last
	text string
}

// sheets is what stands on pages that were made: nodes, and parts of values.
type sheets struct {
	nodes map[int]api.Node
	parts map[int]part
}

func newSheets() sheets {
	return sheets{nodes: map[int]api.Node{}, parts: map[int]part{}}
}

func (s sheets) has(n int) bool {
	_, isNode := s.nodes[n]
	_, isPart := s.parts[n]
	return isNode || isPart
}

func (s sheets) count() int {
	return len(s.nodes) + len(s.parts)
}

// pages is the pages' numbers, rising.
func (s sheets) pages() []int {
	l := slices.AppendSeq(slices.Collect(maps.Keys(s.nodes)), maps.Keys(s.parts))
	slices.Sort(l)
	return l
}

func (s sheets) add(more sheets) {
	maps.Copy(s.nodes, more.nodes)
	maps.Copy(s.parts, more.parts)
}

func (s sheets) remove(n int) {
	delete(s.nodes, n)
	delete(s.parts, n)
}

func (s sheets) clear() {
	clear(s.nodes)
	clear(s.parts)
}

// write writes a page that was made.
func (t *Tree) write(n int) api.Errno {
	if p, ok := t.made.parts[n]; ok {
		return t.pager.Write(n, partKind, link(p.next)+p.text)
	}
	whole := t.made.nodes[n]
	body, e := node.Bytes(whole)
	if e != api.OK {
		return e
	}
	if whole.Leaf {
		return t.pager.Write(n, leafKind, body)
	}
	return t.pager.Write(n, branchKind, body)
}

// node is the one on a page, be it written or not.
func (t *Tree) node(n int) (api.Node, api.Errno) {
	if made, ok := t.made.nodes[n]; ok {
		return made, api.OK
	}
	kind, body, e := t.pager.Read(n)
	if e != api.OK {
		return api.Node{}, e
	}
	if kind != leafKind && kind != branchKind {
		return api.Node{}, api.ErrStore
	}
	read, e := node.Read(kind == leafKind, body)
	if e != api.OK {
		return api.Node{}, api.ErrStore
	}
	// A root may have no cell at all; what is put there makes it a leaf, whatever it was.
	read.Leaf = read.Leaf || len(read.Cells) == 0
	return read, api.OK
}

// part is the one on a page, be it written or not.
func (t *Tree) part(n int) (part, api.Errno) {
	if made, ok := t.made.parts[n]; ok {
		return made, api.OK
	}
	kind, body, e := t.pager.Read(n)
	if e != api.OK {
		return part{}, e
	}
	if kind != partKind || len(body) < linkSize {
		return part{}, api.ErrStore
	}
	return part{next: linked(body), text: body[linkSize:]}, api.OK
}

// link is a page's number as bytes, the greatest first.
func link(n int) string {
	b := make([]byte, linkSize)
	for i := range linkSize {
		b[i] = byte(n >> (8 * (linkSize - 1 - i)))
	}
	return string(b)
}

// linked is the page's number that a text begins with.
func linked(s string) int {
	n := 0
	for i := range linkSize {
		n = n<<8 | int(s[i])
	}
	return n
}

// eachPart does something with each part of a cell's value, if it has any, and with its page. Each part's length hangs on what is left of the value, so that they come to an end whatever page is told to be the next.
func (t *Tree) eachPart(c api.Cell, do func(page int, text string) api.Errno) api.Errno {
	left := c.Size
	for page := c.Page; page != 0; {
		p, e := t.part(page)
		if e != api.OK {
			return e
		}
		ends := left <= partSize
		if len(p.text) != min(left, partSize) || ends != (p.next == 0) {
			return api.ErrStore
		}
		if e := do(page, p.text); e != api.OK {
			return e
		}
		left -= len(p.text)
		page = p.next
	}
	return api.OK
}
