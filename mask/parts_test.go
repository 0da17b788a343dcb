package mask

import (
	"fmt"
	"math/rand"
	"slices"
	"testing"

	"loess/api"
)

// P15.4: the hash of each nibble of each branch.
func TestHash(t *testing.T) {
	for _, b := range branches() {
		for n, k := range apart(b) {
			want(t, fmt.Sprintf("Hash of %d in %s", n, text(b)), hashText(Hash(b, n)), hashText(k.hash, k.hashed))
		}
		for _, n := range noNibbles() {
			want(t, fmt.Sprintf("Hash of %d in %s", n, text(b)), hashText(Hash(b, n)), noHash)
		}
	}
}

// P15.4: hashes told one by one, without the rules.
func TestHashKnown(t *testing.T) {
	b := api.Branch{State: 0x8127, Tree: 0x8001, Hash: 0x8121, Hashes: sums(10, 20, 30, 40)}
	for n, first := range map[int]byte{0: 10, 5: 20, 8: 30, 15: 40} {
		want(t, fmt.Sprint("Hash of ", n), hashText(Hash(b, n)), hexOf(first)+" true")
	}
	for _, n := range []int{1, 2, 3, 4, 6, 7, 9, 14, 16, -1} {
		want(t, fmt.Sprint("Hash of ", n), hashText(Hash(b, n)), noHash)
	}
	want(t, "Hash in no branch", hashText(Hash(api.Branch{}, 0)), noHash)
	want(t, "a hash of zeros", hashText(Hash(api.Branch{Hash: 1, Hashes: [][32]byte{{}}}, 0)), noHash[:64]+" true")
}

// P15.4: fewer Hashes than Hash says: none is told, whatever nibble is asked for.
func TestHashOfTooFew(t *testing.T) {
	for _, b := range branches() {
		for few := range len(b.Hashes) {
			short := b
			short.Hashes = b.Hashes[:few]
			for n := range 16 {
				want(t, fmt.Sprintf("Hash of %d in %s", n, text(short)), hashText(Hash(short, n)), noHash)
			}
			for _, n := range noNibbles() {
				want(t, fmt.Sprintf("Hash of %d in %s", n, text(short)), hashText(Hash(short, n)), noHash)
			}
		}
	}
}

// P15.4, P15.5: each nibble of each branch, with each ref, with tree and without.
func TestWith(t *testing.T) {
	for _, b := range branches() {
		for n := range 16 {
			for _, ref := range refs() {
				wantWith(t, b, n, false, ref)
				wantWith(t, b, n, true, ref)
			}
		}
	}
}

// wantWith holds what With tells against the rules, nibble by nibble, and the branch that was handed in against what it was.
func wantWith(t *testing.T, b api.Branch, n int, tree bool, ref string) api.Branch {
	t.Helper()
	before, old := text(b), apart(b)
	what := fmt.Sprintf("With(%s, %d, %v, %x)", before, n, tree, ref)
	got := With(b, n, tree, ref)
	want(t, what, text(got), text(ruleWith(b, n, tree, ref)))
	want(t, "what was handed in to "+what, text(b), before)
	old[n] = ruleKept(tree, ref)
	for i, k := range old {
		want(t, fmt.Sprint("Hash of ", i, " in ", what), hashText(Hash(got, i)), hashText(k.hash, k.hashed))
		want(t, fmt.Sprint("State of ", i, " in ", what), Has(got.State, i), k.state)
		want(t, fmt.Sprint("Tree of ", i, " in ", what), Has(got.Tree, i), k.tree)
		want(t, fmt.Sprint("Hash's ", i, " in ", what), Has(got.Hash, i), k.hashed)
	}
	return got
}

// P15.4: branches told one by one, without the rules: the least nibble, one in the middle, the greatest.
func TestWithKnown(t *testing.T) {
	full := api.Branch{State: 0x8011, Tree: 0x8011, Hash: 0x8011, Hashes: sums(1, 2, 3)}
	bare := api.Branch{State: 0x4422}
	mixed := api.Branch{State: 0x8412, Tree: 0x0410, Hash: 0x8010, Hashes: sums(5, 6)}
	wrong := "\xa1" + refOf(9)[1:]
	for _, c := range []struct {
		what string
		b    api.Branch
		n    int
		tree bool
		ref  string
		told api.Branch
	}{
		{"least, empty", full, 0, false, "", api.Branch{State: 0x8010, Tree: 0x8010, Hash: 0x8010, Hashes: sums(2, 3)}},
		{"least, empty, tree", full, 0, true, "", api.Branch{State: 0x8010, Tree: 0x8010, Hash: 0x8010, Hashes: sums(2, 3)}},
		{"middle, empty, tree", full, 4, true, "", api.Branch{State: 0x8001, Tree: 0x8001, Hash: 0x8001, Hashes: sums(1, 3)}},
		{"greatest, empty", full, 15, false, "", api.Branch{State: 0x0011, Tree: 0x0011, Hash: 0x0011, Hashes: sums(1, 2)}},
		{"empty, not there", full, 7, true, "", full},
		{"empty, not there, of no hashes", bare, 7, true, "", bare},
		{"least, short", full, 0, false, "\xc2\x20\x01", api.Branch{State: 0x8011, Tree: 0x8010, Hash: 0x8010, Hashes: sums(2, 3)}},
		{"middle, short, tree", full, 4, true, "\x01", api.Branch{State: 0x8011, Tree: 0x8011, Hash: 0x8001, Hashes: sums(1, 3)}},
		{"greatest, of 33 bytes, another first one", full, 15, false, wrong, api.Branch{State: 0x8011, Tree: 0x0011, Hash: 0x0011, Hashes: sums(1, 2)}},
		{"least, hash", full, 0, false, refOf(9), api.Branch{State: 0x8011, Tree: 0x8010, Hash: 0x8011, Hashes: sums(9, 2, 3)}},
		{"middle, hash, tree", full, 4, true, refOf(9), api.Branch{State: 0x8011, Tree: 0x8011, Hash: 0x8011, Hashes: sums(1, 9, 3)}},
		{"greatest, hash", full, 15, false, refOf(9), api.Branch{State: 0x8011, Tree: 0x0011, Hash: 0x8011, Hashes: sums(1, 2, 9)}},
		{"least, new, hash", bare, 0, false, refOf(9), api.Branch{State: 0x4423, Hash: 0x0001, Hashes: sums(9)}},
		{"greatest, new, hash, tree", bare, 15, true, refOf(9), api.Branch{State: 0xc422, Tree: 0x8000, Hash: 0x8000, Hashes: sums(9)}},
		{"new, short, tree", bare, 8, true, "\x80", api.Branch{State: 0x4522, Tree: 0x0100}},
		{"new, of 33 bytes, another first one", bare, 8, false, wrong, api.Branch{State: 0x4522}},
		{"there without a hash, hash", mixed, 1, false, refOf(9), api.Branch{State: 0x8412, Tree: 0x0410, Hash: 0x8012, Hashes: sums(9, 5, 6)}},
		{"there without a hash, hash, no tree any more", mixed, 10, false, refOf(9), api.Branch{State: 0x8412, Tree: 0x0010, Hash: 0x8410, Hashes: sums(5, 9, 6)}},
		{"new between", mixed, 7, true, refOf(9), api.Branch{State: 0x8492, Tree: 0x0490, Hash: 0x8090, Hashes: sums(5, 9, 6)}},
		{"to no nibbles at all", api.Branch{State: 0x0001, Tree: 0x0001, Hash: 0x0001, Hashes: sums(1)}, 0, true, "", api.Branch{}},
		{"out of nothing", api.Branch{}, 3, true, refOf(9), api.Branch{State: 0x0008, Tree: 0x0008, Hash: 0x0008, Hashes: sums(9)}},
	} {
		want(t, "With "+c.what, text(With(c.b, c.n, c.tree, c.ref)), text(c.told))
	}
}

// P15.4: of what is no nibble the branch stays as it is.
func TestWithNoNibble(t *testing.T) {
	for _, b := range append(branches(), api.Branch{}) {
		for _, n := range noNibbles() {
			for _, ref := range []string{"", "\x80", refOf(77)} {
				want(t, fmt.Sprintf("With of %d, %x", n, ref), text(With(b, n, true, ref)), text(b))
			}
		}
	}
}

// P15.5: many in turn, by chance.
func TestWithInTurn(t *testing.T) {
	r, some := rand.New(rand.NewSource(4)), refs()
	for range 200 {
		b := someBranch(r)
		for range 30 {
			n, ref := r.Intn(16), some[r.Intn(len(some))]
			if r.Intn(2) == 0 {
				ref = refOf(byte(r.Intn(256)))
			}
			b = wantWith(t, b, n, r.Intn(2) == 0, ref)
		}
		if t.Failed() {
			t.FailNow()
		}
	}
}

// R3: With neither changes the list that was handed in, nor what stands behind it in memory, nor tells a part of it.
func TestWithMemory(t *testing.T) {
	for _, n := range []int{0, 3, 4, 8, 15, -1, 16} {
		for _, ref := range []string{"", "\x80", refOf(77)} {
			room := numbered(6)
			b := api.Branch{State: 0xc013, Tree: 0x0010, Hash: 0x8011, Hashes: room[:3]}
			before := text(b)
			got := With(b, n, true, ref)
			told := text(got)
			want(t, "what was handed in", text(b), before)
			want(t, "what stands behind it", slices.Equal(room, numbered(6)), true)
			for i := range room {
				room[i] = [32]byte{}
			}
			want(t, "what was told, behind a change of what was handed in", text(got), told)
			copy(room, numbered(6))
			got.Hashes = append(got.Hashes, sum(200))
			for i := range got.Hashes {
				got.Hashes[i] = sum(201)
			}
			want(t, "what was handed in, behind a change of what was told", slices.Equal(room, numbered(6)), true)
		}
	}
}

// R3: what With tells twice are two lists.
func TestWithTwice(t *testing.T) {
	b := api.Branch{State: 0x8011, Hash: 0x8011, Hashes: sums(1, 2, 3)}
	one, other := With(b, 4, true, refOf(9)), With(b, 4, true, refOf(9))
	want(t, "twice", text(one), text(other))
	one.Hashes[0], one.Hashes[1], one.Hashes[2] = sum(7), sum(7), sum(7)
	want(t, "the other one", text(other), text(api.Branch{State: 0x8011, Tree: 0x0010, Hash: 0x8011, Hashes: sums(1, 9, 3)}))
}

// P1: of a branch whose Hashes are too few or too many every call ends.
func TestEndsOfAnyBranch(t *testing.T) {
	for _, m := range []uint16{0, 1, 0x8000, 0x8421, 0x5555, 0xffff} {
		for _, count := range []int{0, 1, 2, 5, 15, 16, 17, 40} {
			b := api.Branch{State: m, Tree: ^m, Hash: m, Hashes: numbered(count)}
			before := text(b)
			for _, n := range append(noNibbles(), 0, 1, 2, 7, 8, 14, 15) {
				Hash(b, n)
				for _, ref := range refs() {
					With(b, n, true, ref)
				}
			}
			Check(b)
			Record(b)
			want(t, "what was handed in", text(b), before)
		}
	}
}
