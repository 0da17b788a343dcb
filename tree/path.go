package tree

import (
	"strings"

	"loess/api"
	"loess/node"
)

// step is a node on the way down to a leaf, and the place of the cell that is meant there.
type step struct {
	page int
	node api.Node
	at   int
}

// cell is that of a key, in the leaf where it would stand.
func (s *step) cell(key string) (api.Cell, bool) {
	if at, found := node.Find(s.node, key); found {
		return s.node.Cells[at], true
	}
	return api.Cell{}, false
}

// path is the way from the root down to a leaf.
type path []step

// end is the leaf's step.
func (p path) end() *step {
	return &p[len(p)-1]
}

func firstCell(api.Node) int { return 0 }

func lastCell(n api.Node) int { return len(n.Cells) - 1 }

// downTo is the way to where a key stands, or would.
func (t *Tree) downTo(key string) (path, api.Errno) {
	return t.down(nil, t.now.root, func(n api.Node) int {
		if n.Leaf {
			at, _ := node.Find(n, key)
			return at
		}
		return node.Child(n, key)
	})
}

// down goes on from the end of a path, with the node on a page, to a leaf; pick is the place that is meant in each node.
func (t *Tree) down(p path, page int, pick func(api.Node) int) (path, api.Errno) {
	for {
		n, e := t.nodeAt(page, len(p))
		if e != api.OK {
			return nil, e
		}
		p = append(p, step{page: page, node: n, at: pick(n)})
		if n.Leaf {
			return p, api.OK
		}
		page = n.Cells[p.end().at].Page
	}
}

// nodeAt is the node on a page below so many branches. That leaves stand where they should is asked once more, so that each way down ends, whoever has written to the device since it was opened.
func (t *Tree) nodeAt(page, depth int) (api.Node, api.Errno) {
	if page == 0 && depth == 0 {
		return api.Node{Leaf: true}, api.OK
	}
	n, e := t.node(page)
	if e != api.OK {
		return api.Node{}, e
	}
	if n.Leaf != (depth == t.now.deep) || len(n.Cells) == 0 && depth > 0 {
		return api.Node{}, api.ErrStore
	}
	return n, api.OK
}

// behind is the way to the first cell of the leaf behind that of p; nil, if there is none.
func (t *Tree) behind(p path) (path, api.Errno) {
	return t.beside(p, 1, firstCell)
}

// ahead is the way to the last cell of the leaf ahead of that of p; nil, if there is none.
func (t *Tree) ahead(p path) (path, api.Errno) {
	return t.beside(p, -1, lastCell)
}

// beside goes up till there is a place beside the one that p goes by, and down from there.
func (t *Tree) beside(p path, by int, pick func(api.Node) int) (path, api.Errno) {
	for len(p) > 1 {
		p = p[:len(p)-1]
		s := p.end()
		s.at += by
		if s.at >= 0 && s.at < len(s.node.Cells) {
			return t.down(p, s.node.Cells[s.at].Page, pick)
		}
	}
	return nil, api.OK
}

// pair is the one that a path, which was found without an error, leads to.
func (t *Tree) pair(p path, e api.Errno) (string, string, bool, api.Errno) {
	if e != api.OK || len(p) == 0 || len(p.end().node.Cells) == 0 {
		return "", "", false, e
	}
	c := p.end().node.Cells[p.end().at]
	value, e := t.value(c)
	if e != api.OK {
		return "", "", false, e
	}
	return c.Key, value, true, api.OK
}

// value is that of a leaf's cell.
func (t *Tree) value(c api.Cell) (string, api.Errno) {
	if c.Page == 0 {
		return c.Value, api.OK
	}
	var whole strings.Builder
	e := t.eachPart(c, func(_ int, text string) api.Errno {
		whole.WriteString(text)
		return api.OK
	})
	if e != api.OK {
		return "", e
	}
	return whole.String(), api.OK
}
