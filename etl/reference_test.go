package etl

import (
	"fmt"
	"maps"
	"math/rand"
	"slices"
	"strings"
	"testing"

	"loess/api"
)

// values is what came for each key, in its order, as a plain map has it.
type values map[string][]string

// pairs is what a policy makes of it.
func (m values) pairs(policy int) string {
	var l []api.Pair
	for _, k := range slices.Sorted(maps.Keys(m)) {
		v := m[k][len(m[k])-1]
		switch policy {
		case First:
			v = m[k][0]
		case All:
			v = strings.Join(m[k], "")
		}
		l = append(l, api.Pair{Key: k, Value: v})
	}
	return text(l)
}

// short is one of few texts, so that keys come again.
func short(r *rand.Rand) string {
	s := ""
	for range r.Intn(4) {
		s += string([]byte{"\x00ab\xff"[r.Intn(4)]})
	}
	return s
}

// P13.1 to P13.4: in calls by chance each limit and each policy has the pairs of a plain map, and the runs and bytes of a plain count.
func TestAgainstAMap(t *testing.T) {
	r := rand.New(rand.NewSource(13))
	for round := range 300 {
		limit, policy := 1+r.Intn(1+round), r.Intn(3)
		c, m := made(t, limit, policy), values{}
		runs, held := 0, 0
		for i := range r.Intn(120) {
			k, v := short(r), short(r)
			add(t, c, k+"="+v)
			m[k] = append(m[k], v)
			if held += len(k) + len(v); held >= limit {
				runs, held = runs+1, 0
			}
			if i%10 == 0 {
				want(t, fmt.Sprintf("limit %d, policy %d", limit, policy), stands(c), fmt.Sprintf("%d %d: %s", runs, held, m.pairs(policy)))
			}
		}
		want(t, fmt.Sprintf("limit %d, policy %d", limit, policy), stands(c), fmt.Sprintf("%d %d: %s", runs, held, m.pairs(policy)))
		if t.Failed() {
			t.FailNow()
		}
	}
}

// P13.4: the same calls with every limit.
func TestPairsAreTheSameWhateverTheLimitIs(t *testing.T) {
	r := rand.New(rand.NewSource(4))
	for range 10 {
		m := values{}
		var texts []string
		for range 60 {
			k, v := short(r), short(r)
			texts, m[k] = append(texts, k+"="+v), append(m[k], v)
		}
		for _, policy := range []int{First, Last, All} {
			for limit := 1; limit > 0; limit = 1 + limit*9/8 {
				c := made(t, limit, policy)
				add(t, c, texts...)
				want(t, fmt.Sprintf("limit %d, policy %d", limit, policy), text(c.Pairs()), m.pairs(policy))
			}
		}
	}
}

// P13.2: sorted runs by chance.
func TestMergeAgainstAMap(t *testing.T) {
	r := rand.New(rand.NewSource(2))
	for range 500 {
		m := values{}
		runs := make([][]api.Pair, r.Intn(9))
		for i := range runs {
			for range r.Intn(12) {
				runs[i] = append(runs[i], list(short(r)+"="+short(r))...)
			}
			slices.SortStableFunc(runs[i], func(a, b api.Pair) int { return strings.Compare(a.Key, b.Key) })
			for _, p := range runs[i] {
				m[p.Key] = append(m[p.Key], p.Value)
			}
		}
		for _, policy := range policies() {
			want(t, fmt.Sprintf("Merge(%d, %v)", policy, runs), text(Merge(policy, runs...)), m.pairs(policy))
		}
	}
}
