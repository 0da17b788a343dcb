package trie

import (
	"fmt"
	"math/rand"
	"testing"

	"loess/api"
	"loess/keccak"
)

// plant is a trie into which pairs are put one by one, in any order: a place with a path ahead of it, and a value or children. It shares no code with the package, but Keccak-256.
type plant struct {
	path     string
	value    string
	children map[byte]*plant
}

// put is the plant with one more pair.
func (p *plant) put(path, value string) *plant {
	if p == nil {
		return &plant{path: path, value: value}
	}
	same := 0
	for same < len(path) && same < len(p.path) && path[same] == p.path[same] {
		same++
	}
	if same == len(p.path) {
		n := path[same]
		p.children[n] = p.children[n].put(path[same+1:], value)
		return p
	}
	fork := &plant{path: path[:same], children: map[byte]*plant{}}
	fork.children[path[same]] = &plant{path: path[same+1:], value: value}
	fork.children[p.path[same]] = &plant{path: p.path[same+1:], value: p.value, children: p.children}
	return fork
}

// node is the bytes of the plant.
func (p *plant) node() []byte {
	if p.children == nil {
		return wrap(0xc0, append(bytesOf(packed(p.path, 2)), bytesOf([]byte(p.value))...))
	}
	var all []byte
	for n := byte(0); n < 16; n++ {
		all = append(all, p.children[n].ref()...)
	}
	fork := wrap(0xc0, append(all, 0x80))
	if p.path == "" {
		return fork
	}
	return wrap(0xc0, append(bytesOf(packed(p.path, 0)), shortened(fork)...))
}

func (p *plant) ref() []byte {
	if p == nil {
		return []byte{0x80}
	}
	return shortened(p.node())
}

func (p *plant) root() [32]byte {
	if p == nil {
		return keccak.Sum("\x80")
	}
	return keccak.Sum(string(p.node()))
}

func shortened(node []byte) []byte {
	if len(node) <= 31 {
		return node
	}
	sum := keccak.Sum(string(node))
	return append([]byte{0xa0}, sum[:]...)
}

func packed(path string, flag byte) []byte {
	halves := []byte{flag, 0}
	if len(path)%2 == 1 {
		halves = []byte{flag + 1}
	}
	halves = append(halves, path...)
	var b []byte
	for i := 0; i < len(halves); i += 2 {
		b = append(b, halves[i]<<4|halves[i+1])
	}
	return b
}

func bytesOf(b []byte) []byte {
	if len(b) == 1 && b[0] <= 0x7f {
		return b
	}
	return wrap(0x80, b)
}

func wrap(base byte, b []byte) []byte {
	if len(b) <= 55 {
		return append([]byte{base + byte(len(b))}, b...)
	}
	var size []byte
	for n := len(b); n > 0; n /= 256 {
		size = append([]byte{byte(n)}, size...)
	}
	return append(append([]byte{base + 55 + byte(len(size))}, size...), b...)
}

func planted(l []api.Pair, depth int) *plant {
	var p *plant
	for _, x := range l {
		p = p.put(x.Key[depth:], x.Value)
	}
	return p
}

// mixes is sizes of maps by chance: keys that share little and much, values short enough that nodes stand within others, and long ones.
func mixes() []struct{ size, kinds, most, longest int } {
	return []struct{ size, kinds, most, longest int }{
		{1, 16, 20, 1}, {1, 2, 3, 40}, {2, 16, 100, 1}, {2, 3, 9, 3}, {3, 2, 9, 1}, {4, 16, 40, 2}, {5, 3, 60, 30},
		{8, 2, 60, 1}, {8, 16, 60, 5}, {12, 2, 40, 20}, {20, 2, 80, 2}, {31, 4, 20, 33}, {40, 16, 30, 80}, {64, 16, 90, 32}, {64, 2, 40, 300},
	}
}

// P14.2 to P14.5: Node, Root and a builder tell of pairs by chance what a trie tells into which they were put one by one.
func TestAgainstATriePutTogetherOneByOne(t *testing.T) {
	r := rand.New(rand.NewSource(14))
	for _, m := range mixes() {
		for range 30 {
			l := somePairs(r, "", m.size, m.kinds, 1+r.Intn(m.most), m.longest)
			p := planted(l, 0)
			what := fmt.Sprintf("%d pairs of %+v", len(l), m)
			want(t, "Node of "+what, answer(Node(0, shuffled(r, l)...)), answer(string(p.node()), api.OK))
			root := p.root()
			want(t, "Root of "+what, rootAnswer(Root(shuffled(r, l)...)), rootAnswer(root, api.OK))
			want(t, "a builder of "+what, stands(built(t, byKey(l)...)), fmt.Sprintf("%d %x", len(l), root))
			if t.Failed() {
				t.FailNow()
			}
		}
	}
}

// P14.2, P14.5: from any depth on, whatever keys have in common ahead of it.
func TestNodeFromADepthAgainstATrie(t *testing.T) {
	r := rand.New(rand.NewSource(5))
	for _, m := range mixes() {
		for _, ahead := range []int{1, 2, 3, 10, 70} {
			l := somePairs(r, someRow(r, ahead, 16), m.size, m.kinds, 2+r.Intn(m.most), m.longest)
			for depth := 0; depth <= ahead; depth += 1 + r.Intn(4) {
				p := planted(l, depth)
				want(t, fmt.Sprintf("Node(%d) of %x", depth, l), answer(Node(depth, l...)), answer(string(p.node()), api.OK))
			}
		}
	}
}

// P14.4, P14.5: the builder's root is Root behind each pair, and asking for it changes nothing.
func TestBuilderBehindEachPair(t *testing.T) {
	r := rand.New(rand.NewSource(44))
	for _, m := range mixes() {
		l := byKey(somePairs(r, "", m.size, m.kinds, m.most, m.longest))
		asked, now := &Builder{}, &Builder{}
		for i, p := range l {
			want(t, "Add", asked.Add(p.Key, p.Value), api.OK)
			want(t, "Add", now.Add(p.Key, p.Value), api.OK)
			told := fmt.Sprintf("%d %x", i+1, planted(l[:i+1], 0).root())
			want(t, fmt.Sprintf("%d pairs of %+v", i+1, m), stands(asked), told)
			want(t, fmt.Sprintf("%d pairs of %+v, again", i+1, m), stands(asked), told)
		}
		want(t, fmt.Sprintf("%+v, asked for at the end alone", m), stands(now), stands(asked))
	}
}
