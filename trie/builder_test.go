package trie

import (
	"fmt"
	"math/rand"
	"strings"
	"testing"

	"loess/api"
)

// rootOf is what a builder of these pairs tells, as Root has it.
func rootOf(t *testing.T, l []api.Pair) string {
	t.Helper()
	root, e := Root(l...)
	if e != api.OK {
		t.Fatalf("Root of %x: error %d", l, e)
	}
	return fmt.Sprintf("%d %x", len(l), root)
}

// P14.4: rising keys, with what is told behind each.
func TestAddOfRisingKeys(t *testing.T) {
	for _, l := range [][]api.Pair{
		list("=a"),
		list("0=a", "1=b", "f=c"),
		list("0000=a", "0001=b", "0010=c", "0100=d", "1000=e", "ffff=f"),
		list("0000=a", "000f=b", "00f0=c", "00ff=d", "f000=e", "fff0=f", "ffff=g"),
		list("1234=a", "1235=b", "1334=c", "1335=d", "2334=e"),
		list("1230=a", "1300=b", "1301=c", "1310=d", "1311=e", "1320=f", "4000=g"),
	} {
		b := &Builder{}
		for i, p := range l {
			want(t, fmt.Sprintf("Add(%x)", p.Key), b.Add(p.Key, p.Value), api.OK)
			want(t, fmt.Sprintf("behind %x", p.Key), stands(b), rootOf(t, l[:i+1]))
		}
	}
}

// P14.4, R2: what is refused leaves the builder as it was, and it goes on.
func TestAddThatIsRefused(t *testing.T) {
	l := list("1230=a", "1232=b", "1302=c", "2000=d")
	bad := []api.Pair{
		{Key: "", Value: "x"},
		{Key: "", Value: ""},
		{Key: digits("0000"), Value: "x"},
		{Key: digits("122f"), Value: "x"},
		{Key: digits("fffff"), Value: "x"},
		{Key: digits("12301"), Value: "x"},
		{Key: digits("fff"), Value: "x"},
		{Key: digits("f"), Value: "x"},
		{Key: digits("ffff"), Value: ""},
		{Key: "\x0f\x0f\x0f\x10", Value: "x"},
		{Key: "\x10\x00\x00\x00", Value: "x"},
		{Key: "\x0f\x10\x0f\x0f", Value: "x"},
		{Key: "ffff", Value: "x"},
		{Key: "\xff\xff\xff\xff", Value: ""},
	}
	b := &Builder{}
	for i, p := range l {
		want(t, fmt.Sprintf("Add(%x)", p.Key), b.Add(p.Key, p.Value), api.OK)
		told, kept := stands(b), *b
		for _, q := range append(bad, p, api.Pair{Key: p.Key, Value: "x"}, l[0], l[i/2]) {
			want(t, fmt.Sprintf("Add(%x, %q) behind %x", q.Key, q.Value, p.Key), b.Add(q.Key, q.Value), api.ErrArg)
			want(t, fmt.Sprintf("behind Add(%x, %q)", q.Key, q.Value), stands(b), told)
			want(t, fmt.Sprintf("what is kept behind Add(%x, %q)", q.Key, q.Value), *b, kept)
		}
		want(t, "told", told, rootOf(t, l[:i+1]))
	}
}

// P14.4: the first key says how long all are, even if it has no nibbles; what is refused ahead of it says nothing.
func TestTheFirstKey(t *testing.T) {
	b := &Builder{}
	want(t, "no row", b.Add("\x01\x10", "x"), api.ErrArg)
	want(t, "no value", b.Add("\x01\x02", ""), api.ErrArg)
	want(t, "no value, no nibbles", b.Add("", ""), api.ErrArg)
	want(t, "behind these", stands(b), "0 "+emptyRoot)
	want(t, "the first one", b.Add("\x00\x00\x00", "a"), api.OK)
	want(t, "a shorter one", b.Add("\x01\x02", "b"), api.ErrArg)
	want(t, "behind it", stands(b), rootOf(t, list("000=a")))

	b = &Builder{}
	want(t, "no nibbles", b.Add("", "a"), api.OK)
	want(t, "no nibbles again", b.Add("", "b"), api.ErrArg)
	want(t, "a nibble behind none", b.Add("\x00", "b"), api.ErrArg)
	want(t, "behind them", stands(b), rootOf(t, list("=a")))
}

// P14.4: Root is asked at any time, any number of times, or never; what it told stays.
func TestRootAskedAtAnyTime(t *testing.T) {
	l := list("0000=a", "0001=b", "0010=c", "0100=d", "0101=e", "1000="+strings.Repeat("f", 40), "1fff=g", "f000=h")
	for asks := range 1 << len(l) {
		b := &Builder{}
		for i, p := range l {
			if asks>>i&1 == 1 {
				told := rootOf(t, l[:i])
				want(t, fmt.Sprint("behind ", i, " pairs"), stands(b), told)
				want(t, fmt.Sprint("behind ", i, " pairs, again"), stands(b), told)
			}
			want(t, "Add", b.Add(p.Key, p.Value), api.OK)
		}
		want(t, fmt.Sprintf("at the end, asked %b", asks), stands(b), rootOf(t, l))
	}
}

// P14.4: beside the last pair there is kept what is open along its key, and nothing else: each place at which keys ahead differed from it, and there the refs of what is done.
func TestWhatABuilderKeeps(t *testing.T) {
	r := rand.New(rand.NewSource(8))
	for _, m := range mixes() {
		l := byKey(somePairs(r, "", m.size, m.kinds, m.most, m.longest))
		b := &Builder{}
		for i, p := range l {
			want(t, "Add", b.Add(p.Key, p.Value), api.OK)
			want(t, "the last pair", b.last, p)
			o := b.top
			for place := len(p.Key) - 1; place >= 0; place-- {
				refs, some := doneAt(t, l[:i], p.Key, place)
				if !some {
					continue
				}
				if o == nil {
					t.Fatalf("nothing is open at place %d of %x", place, p.Key)
				}
				want(t, "place", o.place, place)
				want(t, "refs", fmt.Sprintf("%x", o.refs), fmt.Sprintf("%x", refs))
				o = o.below
			}
			if o != nil {
				t.Fatalf("place %d of %x is open, and no key differed there", o.place, p.Key)
			}
		}
	}
}

// doneAt is the refs of those pairs that differ from key first at a place, by their nibbles there.
func doneAt(t *testing.T, l []api.Pair, key string, place int) (refs [16]string, some bool) {
	t.Helper()
	for n := range key[place] {
		var same []api.Pair
		for _, p := range l {
			if strings.HasPrefix(p.Key, key[:place]+string([]byte{n})) {
				same = append(same, p)
			}
		}
		if len(same) > 0 {
			node, e := Node(place+1, same...)
			want(t, "Node", e, api.OK)
			refs[n], some = Ref(node), true
		}
	}
	return refs, some
}

// R3: builders go their own ways.
func TestTwoBuilders(t *testing.T) {
	l, m := list("00=a", "01=b", "10=c"), list("00=a", "02=b", "20=c")
	b, c := &Builder{}, &Builder{}
	for i := range l {
		want(t, "Add", b.Add(l[i].Key, l[i].Value), api.OK)
		want(t, "Add", c.Add(m[i].Key, m[i].Value), api.OK)
	}
	want(t, "one", stands(b), rootOf(t, l))
	want(t, "the other", stands(c), rootOf(t, m))
}

func TestNilBuilder(t *testing.T) {
	var b *Builder
	want(t, "Add", b.Add("\x01", "a"), api.ErrArg)
	want(t, "Add of nothing", b.Add("", ""), api.ErrArg)
	want(t, "what it tells", stands(b), "0 "+emptyRoot)
}

func TestZeroBuilder(t *testing.T) {
	var b Builder
	want(t, "what it tells", stands(&b), "0 "+emptyRoot)
	want(t, "again", stands(&b), "0 "+emptyRoot)
	want(t, "Add", b.Add("\x01", "a"), api.OK)
	want(t, "behind Add", stands(&b), rootOf(t, list("1=a")))
}
