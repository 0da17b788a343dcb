package trie

import (
	"fmt"
	"math/rand"
	"slices"
	"strings"
	"testing"

	"loess/api"
	"loess/keccak"
	"loess/nibble"
)

// P14.1, P14.3: the chapter's examples.
func TestExamples(t *testing.T) {
	want(t, "Root of nothing", rootAnswer(Root()), emptyRoot+" 0")
	want(t, "Leaf of 1 2 and a", answer(Leaf("\x01\x02", "a")), "c482201261 0")
	want(t, "Ref of c1 80", hex(Ref("\xc1\x80")), "c180")
	want(t, "Root of a key twice", rootAnswer(Root(list("12=a", "12=a")...)), noRoot)
}

// P14.1: leaves of no nibbles, an odd and an even number; of values that stand alone, with a short head and with a long one, and of none.
func TestLeaf(t *testing.T) {
	for _, x := range []struct{ path, value, told string }{
		{"", "a", "c22061"},
		{"", "", "c22080"},
		{"", "\x7f", "c2207f"},
		{"", "\x80", "c3208180"},
		{"1", "a", "c23161"},
		{"0", "a", "c23061"},
		{"f", "", "c23f80"},
		{"12", "a", "c482201261"},
		{"00", "dog", "c7822000" + "83646f67"},
		{"abc", "dog", "c7823abc" + "83646f67"},
		{"0abc", "dog", "c883200abc" + "83646f67"},
		{"12", strings.Repeat("v", 55), "f83b822012b7" + strings.Repeat("76", 55)},
		{"12", strings.Repeat("v", 56), "f83d822012b838" + strings.Repeat("76", 56)},
		{"12", strings.Repeat("v", 300), "f90132822012b9012c" + strings.Repeat("76", 300)},
		{strings.Repeat("5", 64), "v", "e3a120" + strings.Repeat("5", 64) + "76"},
		{strings.Repeat("5", 111), "v", "f83bb838" + "35" + strings.Repeat("5", 110) + "76"},
	} {
		want(t, fmt.Sprintf("Leaf(%s, %.9q)", x.path, x.value), answer(Leaf(digits(x.path), x.value)), x.told+" 0")
	}
}

// P14.1: extensions; the ref is written already, and is not looked at.
func TestExtension(t *testing.T) {
	for _, x := range []struct{ path, ref, told string }{
		{"", "\xc0", "c200c0"},
		{"1", "\xc0", "c211c0"},
		{"0", "\xc0", "c210c0"},
		{"f", "", "c11f"},
		{"12", "\xc0", "c4820012c0"},
		{"00", "dog", "c6820000" + "646f67"},
		{"abc", "\x80", "c4821abc80"},
		{"0abc", "\x80", "c583000abc80"},
		{"12", "\xa0" + strings.Repeat("h", 32), "e4820012a0" + strings.Repeat("68", 32)},
		{"12", strings.Repeat("r", 60), "f83f820012" + strings.Repeat("72", 60)},
	} {
		want(t, fmt.Sprintf("Extension(%s, %.9q)", x.path, x.ref), answer(Extension(digits(x.path), x.ref)), x.told+" 0")
	}
}

// P14.1: paths that are no rows of nibbles.
func TestLeafAndExtensionOfNoRow(t *testing.T) {
	for _, path := range []string{"\x10", "\xff", "a", "\x00\x10", "\x10\x00", "\x01\x02\x20", "\x01\x80\x02", strings.Repeat("\x0f", 99) + "\x10"} {
		for _, behind := range []string{"", "a", "\xc0"} {
			want(t, fmt.Sprintf("Leaf(%x)", path), answer(Leaf(path, behind)), refused)
			want(t, fmt.Sprintf("Extension(%x)", path), answer(Extension(path, behind)), refused)
		}
	}
}

// P14.1: branches with no ref, with each one alone, with some and with all; refs are not looked at.
func TestBranch(t *testing.T) {
	want(t, "no ref", hex(Branch([16]string{})), "d1"+strings.Repeat("80", 17))
	for n := range 16 {
		var refs [16]string
		refs[n] = "\xc2\x20a"
		want(t, fmt.Sprint("ref ", n), hex(Branch(refs)), "d3"+strings.Repeat("80", n)+"c22061"+strings.Repeat("80", 16-n))
	}
	want(t, "some refs", hex(Branch([16]string{0: "a", 3: "\x80", 7: "\xc1\x80", 15: "zz"})), "d361808080808080c180"+strings.Repeat("80", 7)+"7a7a80")
	var all [16]string
	told := ""
	for n := range all {
		all[n] = "\xa0" + strings.Repeat(string([]byte{byte(n)}), 32)
		told += "a0" + strings.Repeat(fmt.Sprintf("%02x", n), 32)
	}
	want(t, "all refs", hex(Branch(all)), "f90211"+told+"80")
	all[15] = ""
	want(t, "all but the last", hex(Branch(all)), "f901f1"+told[:15*66]+"8080")
}

// R3: the array is the caller's own.
func TestBranchLeavesRefsAsTheyAre(t *testing.T) {
	refs := [16]string{2: "\xc0"}
	Branch(refs)
	want(t, "refs", refs, [16]string{2: "\xc0"})
}

// P14.1: nodes of fewer than 32 bytes stand in others as they are.
func TestRef(t *testing.T) {
	for size := range 70 {
		node := strings.Repeat("n", size)
		told := hex(node)
		if size >= 32 {
			told = fmt.Sprintf("a0%x", keccak.Sum(node))
		}
		want(t, fmt.Sprint("Ref of ", size, " bytes"), hex(Ref(node)), told)
	}
	want(t, "Ref of many bytes", hex(Ref(strings.Repeat("n", 100000))), fmt.Sprintf("a0%x", keccak.Sum(strings.Repeat("n", 100000))))
}

// P14.1: the root of nothing.
func TestEmpty(t *testing.T) {
	want(t, "Empty", fmt.Sprintf("%x", Empty()), emptyRoot)
}

// P14.2: of one pair: its leaf from each depth on.
func TestNodeOfOnePair(t *testing.T) {
	l := list("0123f=dog")
	for depth, told := range []string{"c88330123f83646f67", "c88320123f83646f67", "c782323f83646f67", "c782203f83646f67", "c53f83646f67", "c52083646f67"} {
		want(t, fmt.Sprint("depth ", depth), answer(Node(depth, l...)), told+" 0")
	}
	want(t, "no nibbles", answer(Node(0, list("=a")...)), "c22061 0")
}

// P14.2: pairs that differ ahead of depth, at it, behind it, and at their last nibble alone.
func TestNodeOfTwoPairs(t *testing.T) {
	ends := Branch([16]string{0: "\xc2\x20a", 15: "\xc2\x20b"})
	ahead := func(path, branch string) string { return answer(Extension(digits(path), Ref(branch))) }
	last := list("1230=a", "123f=b")
	for depth, path := range []string{"123", "23", "3"} {
		want(t, fmt.Sprint("only the last nibble differs, depth ", depth), answer(Node(depth, last...)), ahead(path, ends))
	}
	want(t, "only the last nibble differs, depth 3", answer(Node(3, last...)), answer(ends, api.OK))
	want(t, "only the last nibble differs, depth 4", answer(Node(4, last...)), refused)

	first := list("5123=a", "4123=b")
	branch := Branch([16]string{5: "\xc4\x82\x31\x23a", 4: "\xc4\x82\x31\x23b"})
	want(t, "the first nibble differs", answer(Node(0, first...)), answer(branch, api.OK))
	for depth := 1; depth <= 4; depth++ {
		want(t, fmt.Sprint("they differ ahead of depth ", depth), answer(Node(depth, first...)), refused)
	}

	middle := list("7851=a", "7891=b")
	branch = Branch([16]string{5: "\xc2\x31a", 9: "\xc2\x31b"})
	want(t, "they differ behind depth 0", answer(Node(0, middle...)), ahead("78", branch))
	want(t, "they differ behind depth 1", answer(Node(1, middle...)), ahead("8", branch))
	want(t, "they differ at depth 2", answer(Node(2, middle...)), answer(branch, api.OK))
	want(t, "they differ ahead of depth 3", answer(Node(3, middle...)), refused)
	want(t, "they differ ahead of depth 4", answer(Node(4, middle...)), refused)
}

// P14.2: all nibbles at one place, and branches below branches with and without an extension between.
func TestNodeOfManyPairs(t *testing.T) {
	var l []api.Pair
	var refs [16]string
	for n := range 16 {
		l = append(l, api.Pair{Key: "\x04" + string([]byte{byte(n)}), Value: string([]byte{byte(100 + n)})})
		refs[n] = "\xc2\x20" + l[n].Value
	}
	branch := Branch(refs)
	want(t, "sixteen, from their nibbles on", answer(Node(1, l...)), answer(branch, api.OK))
	ext, _ := Extension("\x04", Ref(branch))
	want(t, "sixteen", answer(Node(0, l...)), answer(ext, api.OK))

	l = list("1000=a", "1001=b", "1100=c", "1111=d", "2000=e", "2002=f")
	low := Branch([16]string{0: "\xc2\x20a", 1: "\xc2\x20b"})
	lowExt, _ := Extension("\x00", Ref(low))
	mid := Branch([16]string{0: "\xc2\x30c", 1: "\xc2\x31d"})
	high := Branch([16]string{0: Ref(lowExt), 1: Ref(mid)})
	other := Branch([16]string{0: "\xc2\x20e", 2: "\xc2\x20f"})
	otherExt, _ := Extension("\x00\x00", Ref(other))
	want(t, "branches below branches", answer(Node(0, l...)), answer(Branch([16]string{1: Ref(high), 2: Ref(otherExt)}), api.OK))
	want(t, "some of them, from depth 1 on", answer(Node(1, l[:4]...)), answer(high, api.OK))
	want(t, "some of them, from depth 2 on", answer(Node(2, l[4:]...)), answer(Extension("\x00", Ref(other))))
}

// P14.1, P14.2: a node of 31 bytes stands within its branch as it is, one of 32 by its hash.
func TestNodesWithinOthers(t *testing.T) {
	for size := 1; size < 40; size++ {
		v := strings.Repeat("v", size)
		leaf, _ := Leaf("\x01", v)
		in, by := strings.Contains, fmt.Sprintf("a0%x", keccak.Sum(leaf))
		s, e := Node(0, list("21="+v, "3f=x")...)
		want(t, fmt.Sprint("error of ", size), e, api.OK)
		want(t, fmt.Sprint("leaf of ", len(leaf), " bytes as it is"), in(s, leaf), len(leaf) < 32)
		want(t, fmt.Sprint("leaf of ", len(leaf), " bytes by its hash"), in(hex(s), by), len(leaf) >= 32)
	}
}

// P14.1, P14.2: a branch of 31 bytes stands in its extension as it is, one of 32 by its hash.
func TestBranchesWithinExtensions(t *testing.T) {
	four, end := "\xc2\x20a\xc2\x20b\xc2\x20c\xc2\x20d", strings.Repeat("\x80", 11)
	l := list("10=a", "11=b", "12=c", "13=d", "14=e", "15=\x80")
	branch := "\xde" + four + "\xc2\x20e\xc3\x20\x81\x80" + end
	want(t, "bytes of the branch", len(branch), 31)
	want(t, "31 bytes", answer(Node(0, l...)), answer("\xe0\x11"+branch, api.OK))

	l[4].Value = "\x81"
	branch = "\xdf" + four + "\xc3\x20\x81\x81\xc3\x20\x81\x80" + end
	want(t, "bytes of the branch", len(branch), 32)
	want(t, "32 bytes", answer(Node(0, l...)), fmt.Sprintf("e211a0%x 0", keccak.Sum(branch)))
}

// wrong is pairs that may not be.
func wrong() [][]api.Pair {
	return [][]api.Pair{
		list("="),
		list("12="),
		list("12=a", "13="),
		list("13=", "12=a"),
		list("12=a", "12=a"),
		list("12=a", "12=b"),
		list("=a", "=a"),
		list("12=a", "13=b", "14=c", "13=b"),
		list("12=a", "123=b"),
		list("123=a", "12=b"),
		list("=a", "1=b"),
		list("1=b", "=a"),
		list("12=a", "13=b", "145=c"),
		list("12=a", "23=b", "1=c"),
		{{Key: "\x10", Value: "a"}},
		{{Key: "\x01\xff", Value: "a"}},
		{{Key: "a", Value: "a"}, {Key: "\x01", Value: "b"}},
		{{Key: "\x01\x02", Value: "a"}, {Key: "\x01\x10", Value: "b"}},
		{{Key: "\x01\x02", Value: "a"}, {Key: "\x10\x02", Value: "b"}, {Key: "\x01\x03", Value: "b"}},
	}
}

// P14.2, P14.3: pairs that may not be, in each order, from each depth on.
func TestPairsThatMayNotBe(t *testing.T) {
	for _, l := range wrong() {
		for turn := range len(l) {
			turned := slices.Concat(l[turn:], l[:turn])
			want(t, fmt.Sprintf("Root of %x", turned), rootAnswer(Root(turned...)), noRoot)
			for depth := -1; depth < 4; depth++ {
				want(t, fmt.Sprintf("Node(%d) of %x", depth, turned), answer(Node(depth, turned...)), refused)
			}
		}
	}
}

// P14.2: no pair, and depths that no key has.
func TestDepthsThatMayNotBe(t *testing.T) {
	for _, depth := range []int{-1 << 63, -2, -1, 0, 1, 2, 3, 1 << 31, 1<<63 - 1} {
		want(t, fmt.Sprintf("Node(%d) of nothing", depth), answer(Node(depth)), refused)
		if depth < 0 || depth > 2 {
			want(t, fmt.Sprintf("Node(%d) of a pair", depth), answer(Node(depth, list("12=a")...)), refused)
			want(t, fmt.Sprintf("Node(%d) of two", depth), answer(Node(depth, list("12=a", "13=b")...)), refused)
		}
		if depth != 0 {
			want(t, fmt.Sprintf("Node(%d) of no nibbles", depth), answer(Node(depth, list("=a")...)), refused)
		}
	}
}

// P14.2: keys differ ahead of depth, though the first and the last of those that are handed in do not.
func TestNodeAsksAllKeysAheadOfDepth(t *testing.T) {
	l := list("110=a", "200=b", "111=c")
	want(t, "depth 1", answer(Node(1, l...)), refused)
	want(t, "depth 2", answer(Node(2, l...)), refused)
	_, e := Node(0, l...)
	want(t, "depth 0", e, api.OK)
}

// P14.3: roots that others have told, of Ethereum's own tests.
func TestRootsThatOthersTell(t *testing.T) {
	one := api.Pair{Key: nibble.Of("A"), Value: strings.Repeat("a", 50)}
	want(t, "one pair", rootAnswer(Root(one)), "d23786fb4a010da3ce639d66d5e904a11dbc02746d1ce25029e53290cabf28ab 0")
	two := []api.Pair{{Key: nibble.Of("\x00\x45"), Value: "\x01\x23\x45\x67\x89"}, {Key: nibble.Of("\x45\x00"), Value: "\x98\x76\x54\x32\x10"}}
	want(t, "two pairs", rootAnswer(Root(two...)), "285505fcabe84badc8aa310e2aae17eddc7d120aabec8a476902c8184b3a3503 0")
}

// P14.3: the root is the hash of the node, even of one of fewer than 32 bytes.
func TestRootIsTheNodesHash(t *testing.T) {
	for _, l := range [][]api.Pair{list("=a"), list("1=a"), list("12=a", "13=b"), list("12=a", "22=b", "25="+strings.Repeat("c", 99))} {
		s, e := Node(0, l...)
		want(t, "error", e, api.OK)
		want(t, fmt.Sprintf("%x", l), rootAnswer(Root(l...)), fmt.Sprintf("%x 0", keccak.Sum(s)))
	}
}

// P14.3: the order of pairs does not matter, and they stay in it (R3).
func TestRootInEachOrder(t *testing.T) {
	l := list("1000=a", "1001=b", "1100=c", "2000=d")
	told := rootAnswer(Root(l...))
	node := answer(Node(0, l...))
	var orders func(ahead, rest []api.Pair)
	orders = func(ahead, rest []api.Pair) {
		if len(rest) == 0 {
			before := fmt.Sprintf("%x", ahead)
			want(t, before, rootAnswer(Root(ahead...)), told)
			want(t, before, answer(Node(0, ahead...)), node)
			want(t, "the list behind it", fmt.Sprintf("%x", ahead), before)
		}
		for i, p := range rest {
			orders(append(slices.Clone(ahead), p), slices.Concat(rest[:i], rest[i+1:]))
		}
	}
	orders(nil, l)
}

// P14.2, P14.3: every key and every value counts.
func TestEachPairCounts(t *testing.T) {
	r := rand.New(rand.NewSource(3))
	l := somePairs(r, "", 6, 4, 40, 20)
	seen := map[[32]byte]string{}
	note := func(what string, l []api.Pair) {
		root, e := Root(l...)
		want(t, what, e, api.OK)
		if other, ok := seen[root]; ok {
			t.Errorf("%s has the root of %s", what, other)
		}
		seen[root] = what
	}
	note("all", l)
	for i := range l {
		other := slices.Clone(l)
		other[i].Value += "x"
		note(fmt.Sprint("another value ", i), other)
		note(fmt.Sprint("without ", i), slices.Delete(slices.Clone(l), i, i+1))
	}
}

// P14.5: what keys have in common ahead of depth is nothing to Node's text.
func TestWhatIsAheadOfDepthIsNothingToNode(t *testing.T) {
	r := rand.New(rand.NewSource(55))
	for _, m := range mixes() {
		l := somePairs(r, "", m.size, m.kinds, m.most, m.longest)
		told := answer(Node(0, l...))
		for _, ahead := range []string{"0", "f", "12", "555", someDigits(r, 64)} {
			longer := slices.Clone(l)
			for i := range longer {
				longer[i].Key = digits(ahead) + longer[i].Key
			}
			want(t, fmt.Sprintf("%s ahead, of %+v", ahead, m), answer(Node(len(ahead), longer...)), told)
		}
	}
}

func someDigits(r *rand.Rand, size int) string { return fmt.Sprintf("%x", someValue(r, size)) }

// P1, R5: long keys and values, and nodes nested deep in one another.
func TestDeepTries(t *testing.T) {
	const size = 1500
	var l []api.Pair
	for i := range size {
		l = append(l, api.Pair{Key: strings.Repeat("\x0f", i) + strings.Repeat("\x00", size-i), Value: fmt.Sprint(i)})
	}
	root := planted(l, 0).root()
	want(t, "Root", rootAnswer(Root(l...)), rootAnswer(root, api.OK))
	want(t, "a builder", stands(built(t, l...)), fmt.Sprintf("%d %x", size, root))

	long := []api.Pair{{Key: strings.Repeat("\x07", 100000) + "\x00", Value: strings.Repeat("v", 100000)}, {Key: strings.Repeat("\x07", 100000) + "\x01", Value: "b"}}
	want(t, "Root of long keys", rootAnswer(Root(long...)), rootAnswer(planted(long, 0).root(), api.OK))
	want(t, "a builder of long keys", stands(built(t, long...)), fmt.Sprintf("2 %x", planted(long, 0).root()))
}
