package tree

import (
	"maps"
	"slices"

	"loess/api"
)

const firstPage = 2 // behind those of the metas

// span is keys: from one on, to below another one, if there is an end.
type span struct {
	from, to string
	ends     bool
}

func (s span) has(key string) bool {
	return key >= s.from && (!s.ends || key < s.to)
}

// of is the keys that a cell of a node stands for, of those that the node does.
func (s span) of(n api.Node, at int) span {
	s.from = n.Cells[at].Key
	if at+1 < len(n.Cells) {
		s.to, s.ends = n.Cells[at+1].Key, true
	}
	return s
}

// survey is a look at all pages of a tree.
type survey struct {
	tree  *Tree
	found shape
	used  map[int]struct{}
}

// survey goes over all pages from a root on; ErrStore, if they are no tree.
func (t *Tree) survey(root int) (*survey, api.Errno) {
	s := &survey{tree: t, used: map[int]struct{}{}}
	if root == 0 {
		return s, api.OK
	}
	s.found = shape{root: root, deep: -1}
	if e := s.node(root, 0, span{}); e != api.OK {
		return nil, e
	}
	s.found.pages = len(s.used)
	return s, api.OK
}

func (s *survey) pages() []int {
	return slices.Sorted(maps.Keys(s.used))
}

// use counts a page; ErrStore, if it was counted already, or the state can't have it: the pager might hand it out anew.
func (s *survey) use(page int) api.Errno {
	_, again := s.used[page]
	beyond := page < firstPage || page >= s.tree.pager.Meta().Pages
	if again || beyond && !s.tree.made.has(page) {
		return api.ErrStore
	}
	s.used[page] = struct{}{}
	return api.OK
}

// node goes over the pages from a node on that stands below so many branches, and has none but these keys.
func (s *survey) node(page, depth int, keys span) api.Errno {
	if e := s.use(page); e != api.OK {
		return e
	}
	n, e := s.tree.node(page)
	if e != api.OK {
		return noPage(e)
	}
	if !s.right(n, depth, keys) {
		return api.ErrStore
	}
	over := s.child
	if n.Leaf {
		s.found.deep = depth
		s.found.pairs += len(n.Cells)
		over = s.value
	}
	for at, c := range n.Cells {
		if e := over(c, depth+1, keys.of(n, at)); e != api.OK {
			return e
		}
	}
	return api.OK
}

// right is whether a node may stand there.
func (s *survey) right(n api.Node, depth int, keys span) bool {
	if n.Leaf && s.found.deep >= 0 && s.found.deep != depth {
		return false
	}
	if len(n.Cells) == 0 {
		return depth == 0
	}
	return keys.has(n.Cells[0].Key) && keys.has(n.Cells[lastCell(n)].Key)
}

// child goes over the pages below a branch's cell.
func (s *survey) child(c api.Cell, depth int, keys span) api.Errno {
	return s.node(c.Page, depth, keys)
}

// value goes over the pages of a leaf's cell.
func (s *survey) value(c api.Cell, _ int, _ span) api.Errno {
	e := s.tree.eachPart(c, func(page int, _ string) api.Errno { return s.use(page) })
	return noPage(e)
}

// noPage is an error of reading; that the device has no such page is no fault of the caller's, but of the page that tells of it.
func noPage(e api.Errno) api.Errno {
	if e == api.ErrArg {
		return api.ErrStore
	}
	return e
}
