package etl

import (
	"fmt"
	"strings"
	"testing"

	"loess/api"
)

func want[T comparable](t *testing.T, what string, got, want T) {
	t.Helper()
	if got != want {
		t.Errorf("%s: %.300q, want %.300q", what, fmt.Sprint(got), fmt.Sprint(want))
	}
}

func made(t *testing.T, limit, policy int) *Collector {
	t.Helper()
	c, e := New(limit, policy)
	if e != api.OK || c == nil {
		t.Fatalf("New(%d, %d): error %d", limit, policy, e)
	}
	return c
}

// list is pairs out of texts: "a=1".
func list(texts ...string) []api.Pair {
	var l []api.Pair
	for _, s := range texts {
		k, v, _ := strings.Cut(s, "=")
		l = append(l, api.Pair{Key: k, Value: v})
	}
	return l
}

// text is pairs as one text.
func text(l []api.Pair) string {
	var all []string
	for _, p := range l {
		all = append(all, p.Key+"="+p.Value)
	}
	return strings.Join(all, " ")
}

// add adds pairs, each of which is told OK.
func add(t *testing.T, c *Collector, texts ...string) {
	t.Helper()
	for _, p := range list(texts...) {
		if e := c.Add(p.Key, p.Value); e != api.OK {
			t.Fatalf("Add(%q, %q): error %d", p.Key, p.Value, e)
		}
	}
}

// stands is how a collector stands: its runs, its held bytes and its pairs.
func stands(c *Collector) string {
	return fmt.Sprintf("%d %d: %s", c.Runs(), c.Held(), text(c.Pairs()))
}

// some is the first pairs that a function hands out; behind the last of them yield says false.
func some(load func(yield func(p api.Pair) bool), most int) []api.Pair {
	var l []api.Pair
	load(func(p api.Pair) bool {
		l = append(l, p)
		return len(l) < most
	})
	return l
}

// policies is each policy, and numbers that are none.
func policies() []int {
	return []int{First, Last, All, -1, 3, 1 << 40, -1 << 63}
}
