package node

// The chapter's rules once more, word for word and by other means than the package's, for the tests to hold it against.

import (
	"encoding/binary"
	"slices"
	"strings"

	"loess/api"
)

func ruleMayBe(leaf bool, c api.Cell) bool {
	page := c.Page >= 1 && c.Page <= 2147483647
	inLeaf := c.Page == 0 && len(c.Value) <= 200 && c.Size == len(c.Value)
	apartOfLeaf := page && len(c.Value) == 0 && c.Size >= 0 && c.Size <= 60000
	ofBranch := page && len(c.Value) == 0 && c.Size == 0
	return len(c.Key) <= 128 && (leaf && (inLeaf || apartOfLeaf) || !leaf && ofBranch)
}

// ruleCheck asks all pairs of keys, not only neighbours.
func ruleCheck(n api.Node) api.Errno {
	for i, c := range n.Cells {
		if !ruleMayBe(n.Leaf, c) {
			return api.ErrArg
		}
		for _, later := range n.Cells[i+1:] {
			if strings.Compare(c.Key, later.Key) >= 0 {
				return api.ErrArg
			}
		}
	}
	return api.OK
}

func ruleSize(leaf bool, cells ...api.Cell) int {
	size := 2
	for _, c := range cells {
		size += 1 + len(c.Key)
		if !leaf {
			size += 4
		} else if c.Page == 0 {
			size += 2 + len(c.Value)
		} else {
			size += 9
		}
	}
	return size
}

func ruleFind(n api.Node, key string) (int, bool) {
	for i, c := range n.Cells {
		if c.Key >= key {
			return i, c.Key == key
		}
	}
	return len(n.Cells), false
}

func ruleChild(n api.Node, key string) int {
	for i := len(n.Cells) - 1; i >= 0; i-- {
		if n.Cells[i].Key <= key {
			return i
		}
	}
	return 0
}

// rulePut asks no order ahead: it puts the cell behind all others, and sorts.
func rulePut(n api.Node, c api.Cell) api.Node {
	cells := []api.Cell{c}
	for _, x := range n.Cells {
		if x.Key != c.Key {
			cells = append(cells, x)
		}
	}
	slices.SortFunc(cells, func(a, b api.Cell) int { return strings.Compare(a.Key, b.Key) })
	return api.Node{Leaf: n.Leaf, Cells: cells}
}

func ruleDrop(n api.Node, at int) api.Node {
	m := api.Node{Leaf: n.Leaf}
	for i, c := range n.Cells {
		if i != at {
			m.Cells = append(m.Cells, c)
		}
	}
	return m
}

// ruleSplit tries all places, the least first.
func ruleSplit(n api.Node) []api.Node {
	whole, count := ruleSize(n.Leaf, n.Cells...), len(n.Cells)
	if whole <= 1013 || count < 2 {
		return []api.Node{n}
	}
	at, part := 1, ruleSize(n.Leaf, n.Cells[0])
	for at < count-1 && float64(part) < float64(whole)/2 {
		part += ruleSize(n.Leaf, n.Cells[at]) - 2
		at++
	}
	return []api.Node{{Leaf: n.Leaf, Cells: n.Cells[:at]}, {Leaf: n.Leaf, Cells: n.Cells[at:]}}
}

// laid is bytes as a node has them, also of such that may not be or does not fit; count is what they say of how many cells there are.
func laid(leaf bool, count int, cells ...api.Cell) string {
	b := binary.BigEndian.AppendUint16(nil, uint16(count))
	for _, c := range cells {
		b = append(append(b, byte(len(c.Key))), c.Key...)
		switch {
		case !leaf:
			b = binary.BigEndian.AppendUint32(b, uint32(c.Page))
		case c.Page == 0:
			b = append(append(b, 0, byte(len(c.Value))), c.Value...)
		default:
			b = binary.BigEndian.AppendUint32(append(b, 1), uint32(c.Page))
			b = binary.BigEndian.AppendUint32(b, uint32(c.Size))
		}
	}
	return string(b)
}

func ruleBytes(n api.Node) (string, api.Errno) {
	switch {
	case ruleCheck(n) != api.OK:
		return "", api.ErrArg
	case ruleSize(n.Leaf, n.Cells...) > 1013:
		return "", api.ErrSize
	}
	return laid(n.Leaf, len(n.Cells), n.Cells...), api.OK
}

// ruleRead goes on from cell to cell, asks each byte where it stands, and writes nothing anew.
func ruleRead(leaf bool, s string) (api.Node, api.Errno) {
	if len(s) < 2 || len(s) > 1013 {
		return api.Node{}, api.ErrForm
	}
	n, at := api.Node{Leaf: leaf}, 2
	for range binary.BigEndian.Uint16([]byte(s)) {
		c, size := ruleCell(leaf, s[at:])
		if size == 0 {
			return api.Node{}, api.ErrForm
		}
		n.Cells = append(n.Cells, c)
		at += size
	}
	if at != len(s) || ruleCheck(n) != api.OK {
		return api.Node{}, api.ErrForm
	}
	return n, api.OK
}

// ruleCell is the cell that s begins with, and how many bytes it has: none, if there is no cell.
func ruleCell(leaf bool, s string) (api.Cell, int) {
	if len(s) == 0 || len(s) < 1+int(s[0]) {
		return api.Cell{}, 0
	}
	size := 1 + int(s[0])
	c, tail := api.Cell{Key: s[1:size]}, []byte(s[size:])
	switch {
	case !leaf && len(tail) >= 4:
		c.Page = int(binary.BigEndian.Uint32(tail))
		return c, size + 4
	case leaf && len(tail) >= 2 && tail[0] == 0 && len(tail) >= 2+int(tail[1]):
		c.Value, c.Size = string(tail[2:2+int(tail[1])]), int(tail[1])
		return c, size + 2 + c.Size
	case leaf && len(tail) >= 9 && tail[0] == 1:
		c.Page, c.Size = int(binary.BigEndian.Uint32(tail[1:])), int(binary.BigEndian.Uint32(tail[5:]))
		if c.Page == 0 {
			return api.Cell{}, 0
		}
		return c, size + 9
	}
	return api.Cell{}, 0
}
