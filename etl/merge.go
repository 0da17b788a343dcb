package etl

import (
	"cmp"
	"container/heap"
	"iter"
	"slices"
	"strings"

	"loess/api"
)

// head is what of a run is not told yet: one pair at least.
type head struct {
	pairs []api.Pair
	place int // of the run among all
}

// heads has the order of a heap: by the first pairs' keys; of one key the run that came first.
type heads []head

func (h heads) Len() int {
	return len(h)
}

func (h heads) Less(i, j int) bool {
	a, b := h[i], h[j]
	return cmp.Or(strings.Compare(a.pairs[0].Key, b.pairs[0].Key), cmp.Compare(a.place, b.place)) < 0
}

func (h heads) Swap(i, j int) {
	h[i], h[j] = h[j], h[i]
}

// line is all pairs of some runs, the least one ahead. Whoever merges needs to know no more of it.
type line interface {
	heap.Interface
	next() api.Pair
}

// queue is the line of sorted runs.
type queue struct {
	heads
}

// queueOf has only runs with pairs in it, since others have no first key.
func queueOf(runs ...[]api.Pair) *queue {
	q := &queue{}
	for _, r := range runs {
		if len(r) > 0 {
			heap.Push(q, head{pairs: r, place: q.Len()})
		}
	}
	return q
}

// Push and Pop are container/heap's: they add and take away at the end.
func (q *queue) Push(x any) {
	q.heads = append(q.heads, x.(head))
}

func (q *queue) Pop() any {
	end := q.Len() - 1
	last := q.heads[end]
	q.heads = q.heads[:end]
	return last
}

// next takes the least pair away; the rest of its run goes back to where it belongs.
func (q *queue) next() api.Pair {
	h := heap.Pop(q).(head)
	if rest := h.pairs[1:]; len(rest) > 0 {
		heap.Push(q, head{pairs: rest, place: h.place})
	}
	return h.pairs[0]
}

// inOrder goes over all pairs of a line.
func inOrder(l line) iter.Seq[api.Pair] {
	return func(yield func(p api.Pair) bool) {
		for l.Len() > 0 && yield(l.next()) {
		}
	}
}

// chosen is what a policy makes of the values of one key, in the order in which they came.
func chosen(policy int, values []string) string {
	switch policy {
	case First:
		return values[0]
	case All:
		return strings.Join(values, "")
	}
	return values[len(values)-1]
}

// merged goes over the keys of sorted runs. Each time it is gone over from the beginning.
func merged(policy int, runs ...[]api.Pair) iter.Seq[api.Pair] {
	return func(yield func(p api.Pair) bool) {
		if yield == nil {
			return
		}
		var key string
		var values []string
		for p := range inOrder(queueOf(runs...)) {
			if len(values) > 0 && p.Key != key {
				if !yield(api.Pair{Key: key, Value: chosen(policy, values)}) {
					return
				}
				values = values[:0]
			}
			key, values = p.Key, append(values, p.Value)
		}
		if len(values) > 0 {
			yield(api.Pair{Key: key, Value: chosen(policy, values)})
		}
	}
}

// Merge is each key of sorted runs once.
func Merge(policy int, runs ...[]api.Pair) []api.Pair {
	return slices.Collect(merged(policy, runs...))
}
