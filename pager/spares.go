package pager

import "slices"

// spares is pages that are spare. They lie in a map as runs of pages in a row, not one by one: a meta may tell of more pages than any memory has room for.
type spares struct {
	runs   map[int]int // by a run's first page the one behind its last
	firsts []int       // of all runs, rising, so that the least is found without going over the map
	count  int         // of pages
}

// between is the pages from a first one to below an end, without some that may be any numbers.
func between(first, end int, without ...int) spares {
	var s spares
	for _, n := range slices.Sorted(slices.Values(without)) {
		if first <= n && n < end {
			s.add(first, n)
			first = n + 1
		}
	}
	s.add(first, end)
	return s
}

// add puts a run there, none of whose pages is there yet.
func (s *spares) add(first, end int) {
	if first >= end {
		return
	}
	if s.runs == nil {
		s.runs = map[int]int{}
	}
	at, _ := slices.BinarySearch(s.firsts, first)
	s.firsts = slices.Insert(s.firsts, at, first)
	s.runs[first] = end
	s.count += end - first
}

func (s *spares) has(n int) bool {
	at, found := slices.BinarySearch(s.firsts, n)
	return found || at > 0 && n < s.runs[s.firsts[at-1]]
}

// take is the least page, which is there no more; false, if there is none.
func (s *spares) take() (int, bool) {
	if s.count == 0 {
		return 0, false
	}
	n := s.firsts[0]
	end := s.runs[n]
	delete(s.runs, n)
	s.count--
	if n+1 < end {
		s.firsts[0], s.runs[n+1] = n+1, end
	} else {
		s.firsts = s.firsts[1:]
	}
	return n, true
}

// cut takes away all runs from a page on; it is within none.
func (s *spares) cut(from int) {
	at, _ := slices.BinarySearch(s.firsts, from)
	for _, n := range s.firsts[at:] {
		s.count -= s.runs[n] - n
		delete(s.runs, n)
	}
	s.firsts = s.firsts[:at]
}
