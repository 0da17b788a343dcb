package shard

import (
	"slices"

	"loess/api"
	"loess/bitset"
)

// The rules of the chapter once more, by its own words: a set is a rising list of numbers, and chunks are a set's if its Split is just these.

func ruleSplit(members []int) []api.Chunk {
	var l []api.Chunk
	for part := range slices.Chunk(members, 64) {
		l = append(l, chunkOf(slices.Max(part), part...))
	}
	if len(l) > 0 {
		l[len(l)-1].Upper = 1<<31 - 1
	}
	return l
}

// chunkOf is a chunk of these members with that upper, whether a set has such a one or not.
func chunkOf(upper int, members ...int) api.Chunk {
	return api.Chunk{Upper: upper, Data: bitset.New(members...).Bytes()}
}

// ruleJoin is the members of the set whose Split l is; false, if l is none.
func ruleJoin(l []api.Chunk) ([]int, bool) {
	var members []int
	for _, c := range l {
		s, e := bitset.Read(c.Data)
		if e != api.OK {
			return nil, false
		}
		members = append(members, s.Members()...)
	}
	slices.Sort(members)
	members = slices.Compact(members)
	return members, slices.Equal(ruleSplit(members), l)
}

func ruleAppend(l []api.Chunk, n int) ([]api.Chunk, api.Errno) {
	members, ok := ruleJoin(l)
	if !ok {
		return nil, api.ErrForm
	}
	above := !slices.ContainsFunc(members, func(m int) bool { return m >= n })
	if !above || n < 0 || n > 1<<31-1 {
		return nil, api.ErrArg
	}
	return ruleSplit(append(members, n)), api.OK
}

func ruleCut(l []api.Chunk, from int) ([]api.Chunk, api.Errno) {
	members, ok := ruleJoin(l)
	if !ok {
		return nil, api.ErrForm
	}
	return ruleSplit(slices.DeleteFunc(members, func(m int) bool { return m >= from })), api.OK
}

func ruleWhich(uppers []int, from int) (int, bool) {
	at := slices.IndexFunc(uppers, func(upper int) bool { return upper >= from })
	return max(at, 0), at >= 0
}

// ruleLeast is the least of the members, in any order, that is not below from.
func ruleLeast(members []int, from int) (int, bool) {
	rest := slices.DeleteFunc(slices.Clone(members), func(m int) bool { return m < from })
	if len(rest) == 0 {
		return 0, false
	}
	return slices.Min(rest), true
}

func ruleFind(l []api.Chunk, from int) (int, bool, api.Errno) {
	at := slices.IndexFunc(l, func(c api.Chunk) bool { return c.Upper >= from })
	if at < 0 {
		return 0, false, api.OK
	}
	first, e := bitset.Read(l[at].Data)
	if e != api.OK {
		return 0, false, api.ErrForm
	}
	if n, ok := ruleLeast(first.Members(), from); ok || at+1 == len(l) {
		return n, ok, api.OK
	}
	next, e := bitset.Read(l[at+1].Data)
	if e != api.OK {
		return 0, false, api.ErrForm
	}
	n, ok := ruleLeast(next.Members(), from)
	return n, ok, api.OK
}
