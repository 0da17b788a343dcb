package tree

import (
	"loess/api"
	"loess/node"
)

// draft is a change that is not made yet. Nothing of the tree changes ahead of its end, so that whatever fails till then, the tree is as it was.
type draft struct {
	tree    *Tree
	made    sheets
	root    int
	deep    int
	taken   []int // pages that the pager gave it
	dropped []int // pages that the tree needs no more
	spare   []int // those of them that no commit knows of: they are taken ahead of the pager's
}

// change makes anew the leaf that a path leads to, with what do makes of it, and all nodes above; key is the one that is put or deleted there.
func (t *Tree) change(p path, key string, do func(*draft, api.Node) (api.Node, api.Errno)) api.Errno {
	d := &draft{tree: t, made: newSheets(), deep: t.now.deep}
	n, e := do(d, p.end().node)
	for level := len(p) - 1; level > 0 && e == api.OK; level-- {
		n, e = d.lift(p, level, key, n)
	}
	if e == api.OK {
		e = d.crown(p[0], n)
	}
	if e != api.OK {
		t.pager.Free(d.taken...)
		return e
	}
	d.end()
	return api.OK
}

// end makes the change.
func (d *draft) end() {
	t := d.tree
	for _, n := range d.dropped {
		t.made.remove(n)
	}
	t.made.add(d.made)
	for _, n := range d.dropped {
		if !d.made.has(n) {
			t.pager.Free(n)
		}
	}
	t.now.root, t.now.deep = d.root, d.deep
	t.now.pages += d.made.count() - len(d.dropped)
	t.changed = true
}

// page is one to make a node or a part on.
func (d *draft) page() (int, api.Errno) {
	if left := len(d.spare) - 1; left >= 0 {
		n := d.spare[left]
		d.spare = d.spare[:left]
		return n, api.OK
	}
	n, e := d.tree.pager.Alloc()
	if e == api.OK {
		d.taken = append(d.taken, n)
	}
	return n, e
}

// drop tells a page that is needed no more; 0 is none.
func (d *draft) drop(n int) {
	if n == 0 {
		return
	}
	d.dropped = append(d.dropped, n)
	if d.tree.made.has(n) {
		d.spare = append(d.spare, n)
	}
}

// dropValue tells that a cell's value is needed no more.
func (d *draft) dropValue(c api.Cell) api.Errno {
	return d.tree.eachPart(c, func(page int, _ string) api.Errno {
		d.drop(page)
		return api.OK
	})
}

// cell is that of a pair, whose value stands on pages of its own if it is too great. Its last part is made first, so that each knows the page of the next.
func (d *draft) cell(key, value string) (api.Cell, api.Errno) {
	if len(value) <= api.MaxInline {
		return api.Cell{Key: key, Value: value, Size: len(value)}, api.OK
	}
	next := 0
	for from := (len(value) - 1) / partSize * partSize; from >= 0; from -= partSize {
		n, e := d.page()
		if e != api.OK {
			return api.Cell{}, e
		}
		d.made.parts[n] = part{next: next, text: value[from:min(from+partSize, len(value))]}
		next = n
	}
	return api.Cell{Key: key, Page: next, Size: len(value)}, api.OK
}

// lift puts n in the place of a path's node at a level, and is what the node above it is then.
func (d *draft) lift(p path, level int, key string, n api.Node) (api.Node, api.Errno) {
	below, above := p[level], p[level-1]
	d.drop(below.page)
	up, at := above.node, above.at
	if len(n.Cells) == 0 {
		return node.Drop(up, at), api.OK
	}
	if small(n) && node.Size(n) < node.Size(below.node) {
		var e api.Errno
		if n, up, at, e = d.joined(level, n, up, at); e != api.OK {
			return up, e
		}
	}
	// A key below all that a branch has is asked of its first child: it is the least one there from now on.
	cells, e := d.placed(n, min(up.Cells[at].Key, key))
	up = node.Drop(up, at)
	for _, c := range cells {
		up = node.Put(up, c)
	}
	return up, e
}

// small is whether a node is worth a look at its neighbours.
func small(n api.Node) bool {
	return 2*node.Size(n) < api.MaxBody
}

// joined is n, the child at a place of up, with the cells of a neighbour that it has room for, up without that neighbour, and n's place there then; all as they are, if there is no such neighbour.
func (d *draft) joined(level int, n, up api.Node, at int) (api.Node, api.Node, int, api.Errno) {
	for _, beside := range [...]int{at + 1, at - 1} {
		if beside < 0 || beside >= len(up.Cells) {
			continue
		}
		page := up.Cells[beside].Page
		other, e := d.tree.nodeAt(page, level)
		if e != api.OK {
			return n, up, at, e
		}
		whole := node.Join(n, other)
		if beside < at {
			whole = node.Join(other, n)
		}
		if node.Fits(whole) {
			d.drop(page)
			left := min(at, beside)
			return whole, node.Drop(up, left+1), left, api.OK
		}
	}
	return n, up, at, api.OK
}

// placed makes n, or the two that it has to be cut into, and is a branch's cells for that; key is the least that the first of them is asked for.
func (d *draft) placed(n api.Node, key string) ([]api.Cell, api.Errno) {
	var cells []api.Cell
	for i, half := range node.Split(n) {
		page, e := d.page()
		if e != api.OK {
			return nil, e
		}
		d.made.nodes[page] = half
		if i > 0 {
			key = half.Cells[0].Key
		}
		cells = append(cells, api.Cell{Key: key, Page: page})
	}
	return cells, api.OK
}

// crown puts n in the place of the root.
func (d *draft) crown(root step, n api.Node) api.Errno {
	d.drop(root.page)
	switch {
	case len(n.Cells) == 0:
		d.root, d.deep = 0, 0
		return api.OK
	case len(n.Cells) == 1 && !n.Leaf:
		d.root = n.Cells[0].Page
		d.deep--
		return api.OK
	}
	cells, e := d.placed(n, "")
	if e == api.OK && len(cells) > 1 {
		cells, e = d.placed(api.Node{Cells: cells}, "")
		d.deep++
	}
	if e == api.OK {
		d.root = cells[0].Page
	}
	return e
}
