package trie

import (
	"fmt"
	"math/rand"
	"slices"
	"strings"
	"testing"

	"loess/api"
)

func want[T comparable](t *testing.T, what string, got, want T) {
	t.Helper()
	if got != want {
		t.Errorf("%s: %.600s, want %.600s", what, fmt.Sprint(got), fmt.Sprint(want))
	}
}

// digits is each digit's value: "1f" is the row 1 15.
func digits(s string) string {
	row := make([]byte, len(s))
	for i := range row {
		row[i] = byte(strings.IndexByte("0123456789abcdef", s[i]))
	}
	return string(row)
}

// list is pairs out of texts whose keys are digits: "1f=a".
func list(texts ...string) []api.Pair {
	var l []api.Pair
	for _, s := range texts {
		k, v, _ := strings.Cut(s, "=")
		l = append(l, api.Pair{Key: digits(k), Value: v})
	}
	return l
}

// hex is bytes as digits.
func hex(s string) string { return fmt.Sprintf("%x", s) }

// answer is a text with its error.
func answer(s string, e api.Errno) string { return fmt.Sprintf("%x %d", s, int(e)) }

// rootAnswer is a root with its error.
func rootAnswer(root [32]byte, e api.Errno) string { return answer(string(root[:]), e) }

const (
	refused   = " 1" // ErrArg, and no text
	noRoot    = "0000000000000000000000000000000000000000000000000000000000000000 1"
	emptyRoot = "56e81f171bcc55a6ff8345e692c0f86e5b48e01b996cadc001622fb5e363b421"
)

// built is a builder that has taken pairs.
func built(t *testing.T, l ...api.Pair) *Builder {
	t.Helper()
	b := &Builder{}
	for _, p := range l {
		if e := b.Add(p.Key, p.Value); e != api.OK {
			t.Fatalf("Add(%x, %q): error %d", p.Key, p.Value, e)
		}
	}
	return b
}

// stands is what a builder tells.
func stands(b *Builder) string {
	return fmt.Sprintf("%d %x", b.Len(), b.Root())
}

// byKey is pairs with rising keys.
func byKey(l []api.Pair) []api.Pair {
	l = slices.Clone(l)
	slices.SortFunc(l, func(a, b api.Pair) int { return strings.Compare(a.Key, b.Key) })
	return l
}

// shuffled is pairs in an order by chance.
func shuffled(r *rand.Rand, l []api.Pair) []api.Pair {
	l = slices.Clone(l)
	r.Shuffle(len(l), func(i, j int) { l[i], l[j] = l[j], l[i] })
	return l
}

// someRow is a row by chance. Of few kinds of nibbles keys share much.
func someRow(r *rand.Rand, size, kinds int) string {
	row := make([]byte, size)
	for i := range row {
		row[i] = byte((15 + r.Intn(kinds)) % 16)
	}
	return string(row)
}

// somePairs is pairs by chance with keys that have what is ahead in common, each key once, in no order.
func somePairs(r *rand.Rand, ahead string, size, kinds, most, longest int) []api.Pair {
	var l []api.Pair
	seen := map[string]bool{}
	for range most {
		k := ahead + someRow(r, size, kinds)
		if !seen[k] {
			l = append(l, api.Pair{Key: k, Value: someValue(r, longest)})
		}
		seen[k] = true
	}
	return l
}

func someValue(r *rand.Rand, longest int) string {
	v := make([]byte, 1+r.Intn(longest))
	for i := range v {
		v[i] = byte(r.Intn(256))
	}
	return string(v)
}
