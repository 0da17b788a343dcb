package trie

import (
	"loess/api"
	"loess/keccak"
	"loess/nibble"
)

// branch is one that is not done: at its place keys differ, and of those nibbles that no key to come can have there, the refs are known.
type branch struct {
	place int
	refs  [width]string
}

// with is the branch with one more ref.
func (b branch) with(n byte, ref string) branch {
	b.refs[n] = ref
	return b
}

// open is a stack of branches along one key, the deepest one on top. None is ever changed, so that Root may close them all and more may be added behind it.
type open struct {
	branch
	below *open
}

// behind is where a node begins that hangs on the stack: behind the top's place, though not ahead of depth.
func (o *open) behind(depth int) int {
	if o == nil {
		return depth
	}
	return max(depth, o.place+1)
}

// Builder takes pairs by rising keys. What stands ahead of the last one is kept as refs alone.
type Builder struct {
	count int
	last  api.Pair
	top   *open
}

// Add takes a pair.
func (b *Builder) Add(key, value string) api.Errno {
	if b == nil || value == "" || !nibble.Right(key) || b.count > 0 && !follows(b.last.Key, key) {
		return api.ErrArg
	}
	if b.count > 0 {
		b.top = b.parted(nibble.Prefix(b.last.Key, key))
	}
	b.last = api.Pair{Key: key, Value: value}
	b.count++
	return api.OK
}

// parted is what is open of the next key, which differs from the last one at place: all behind it is done.
func (b *Builder) parted(place int) *open {
	node, rest := b.folded(place + 1)
	at := branch{place: place}
	if rest != nil && rest.place == place {
		at, rest = rest.branch, rest.below
	}
	return &open{branch: at.with(b.last.Key[place], Ref(node)), below: rest}
}

// folded is the node, from depth on, of the pairs that have what the last key has ahead of depth; and what is open ahead of depth.
func (b *Builder) folded(depth int) (string, *open) {
	key, top := b.last.Key, b.top
	node, _ := Leaf(key[top.behind(depth):], b.last.Value)
	for top != nil && top.place >= depth {
		done := top.with(key[top.place], Ref(node))
		top = top.below
		node = extended(key[top.behind(depth):done.place], Branch(done.refs))
	}
	return node, top
}

// Len is how many pairs were taken.
func (b *Builder) Len() int {
	if b == nil {
		return 0
	}
	return b.count
}

// Root is that of all pairs that were taken.
func (b *Builder) Root() [32]byte {
	if b.Len() == 0 {
		return Empty()
	}
	node, _ := b.folded(0)
	return keccak.Sum(node)
}
