package etl

import (
	"fmt"
	"slices"
	"strings"
	"testing"

	"loess/api"
)

// P13.1 to P13.3: the chapter's examples.
func TestExamples(t *testing.T) {
	for policy, pairs := range []string{"a=2 b=1", "a=2 b=3", "a=2 b=13"} {
		c := made(t, 4, policy)
		add(t, c, "b=1", "a=2", "b=3")
		want(t, fmt.Sprint("policy ", policy), stands(c), "1 2: "+pairs)
	}
	c, e := New(0, Last)
	want(t, "New(0, Last)", fmt.Sprint(c, int(e)), "<nil> 1")
}

func TestPoliciesHaveTheChaptersNumbers(t *testing.T) {
	want(t, "policies", fmt.Sprint(First, Last, All), "0 1 2")
}

// P13.1: a limit of 1 or more and a policy that is one; else ErrArg, and no collector.
func TestNew(t *testing.T) {
	for _, limit := range []int{-1 << 63, -1, 0, 1, 2, 1 << 20, 1<<63 - 1} {
		for _, policy := range policies() {
			c, e := New(limit, policy)
			what := fmt.Sprintf("New(%d, %d)", limit, policy)
			if limit < 1 || policy < 0 || policy > 2 {
				want(t, what, fmt.Sprint(c, int(e)), "<nil> 1")
				continue
			}
			want(t, what, e, api.OK)
			want(t, what, stands(c), "0 0: ")
		}
	}
}

// P13.1: the held bytes below the limit, at it and above it.
func TestAddAroundTheLimit(t *testing.T) {
	for _, x := range []struct {
		limit int
		texts []string
		told  string
	}{
		{1, nil, "0 0: "},
		{1, []string{"="}, "0 0: ="},
		{1, []string{"=", "=", "="}, "0 0: ="},
		{1, []string{"a="}, "1 0: a="},
		{1, []string{"=1"}, "1 0: =1"},
		{1, []string{"=", "a=", "="}, "1 0: = a="},
		{1, []string{"a=1", "b=2", "c=3"}, "3 0: a=1 b=2 c=3"},
		{1, []string{"abc=defg"}, "1 0: abc=defg"},
		{2, []string{"a="}, "0 1: a="},
		{2, []string{"=1"}, "0 1: =1"},
		{2, []string{"a=", "=1"}, "1 0: =1 a="},
		{3, []string{"a=1"}, "0 2: a=1"},
		{3, []string{"a=1", "="}, "0 2: = a=1"},
		{3, []string{"a=1", "b="}, "1 0: a=1 b="},
		{3, []string{"a=1", "b=2"}, "1 0: a=1 b=2"},
		{3, []string{"a=1", "b=2", "c=3"}, "1 2: a=1 b=2 c=3"},
		{3, []string{"a=1", "b=2", "c=3", "d=4"}, "2 0: a=1 b=2 c=3 d=4"},
		{5, []string{"b=1", "a=1"}, "0 4: a=1 b=1"},
		{5, []string{"b=1", "a=1", "=2"}, "1 0: =2 a=1 b=1"},
		{5, []string{"b=1", "a=1", "c=2345"}, "1 0: a=1 b=1 c=2345"},
		{1<<63 - 1, []string{"b=1", "a=1", "c=2345"}, "0 9: a=1 b=1 c=2345"},
	} {
		c := made(t, x.limit, Last)
		add(t, c, x.texts...)
		want(t, fmt.Sprintf("limit %d, %v", x.limit, x.texts), stands(c), x.told)
	}
}

// P13.1, P13.2: the same key again, within a run, in another one and in what is held, has its values in the order in which they came.
func TestTheSameKeyAgain(t *testing.T) {
	texts := []string{"b=1", "a=2", "b=3", "a=4", "=5", "b=6", "=7", "b=8", "a="}
	for policy, pairs := range []string{"=5 a=2 b=1", "=7 a= b=8", "=57 a=24 b=1368"} {
		for limit := 1; limit < 20; limit++ {
			c := made(t, limit, policy)
			add(t, c, texts...)
			want(t, fmt.Sprintf("limit %d, policy %d", limit, policy), text(c.Pairs()), pairs)
		}
	}
}

// P13.1: pairs with one key stay in their order in a run of many, where a sort that isn't stable mixes them.
func TestManyOfOneKeyInARun(t *testing.T) {
	c := made(t, 1<<20, All)
	wanted := map[string]string{}
	for i := range 500 {
		k, v := fmt.Sprint("k", i*7%5), fmt.Sprint(i, ",")
		add(t, c, k+"="+v)
		wanted[k] += v
	}
	l := c.Pairs()
	want(t, "pairs", len(l), 5)
	for _, p := range l {
		want(t, p.Key, p.Value, wanted[p.Key])
	}
}

// P13.2: merged runs, with each policy; a policy that is none counts as Last.
func TestMerge(t *testing.T) {
	for _, x := range []struct {
		runs             [][]api.Pair
		first, last, all string
	}{
		{nil, "", "", ""},
		{[][]api.Pair{nil}, "", "", ""},
		{[][]api.Pair{nil, {}, nil}, "", "", ""},
		{[][]api.Pair{list("=")}, "=", "=", "="},
		{[][]api.Pair{list("=1")}, "=1", "=1", "=1"},
		{[][]api.Pair{list("=", "=1", "=", "a=")}, "= a=", "= a=", "=1 a="},
		{[][]api.Pair{list("a=1", "b=2")}, "a=1 b=2", "a=1 b=2", "a=1 b=2"},
		{[][]api.Pair{list("a=1", "a=2", "a=3")}, "a=1", "a=3", "a=123"},
		{[][]api.Pair{nil, list("a=1"), {}, list("b=2"), nil}, "a=1 b=2", "a=1 b=2", "a=1 b=2"},
		{[][]api.Pair{list("b=2"), list("a=1")}, "a=1 b=2", "a=1 b=2", "a=1 b=2"},
		{[][]api.Pair{list("a=1"), list("a=2"), list("a=3")}, "a=1", "a=3", "a=123"},
		{[][]api.Pair{list("a=3"), list("a=2"), list("a=1")}, "a=3", "a=1", "a=321"},
		{[][]api.Pair{list("a=1", "a=2"), nil, list("=0", "a=3")}, "=0 a=1", "=0 a=3", "=0 a=123"},
		{[][]api.Pair{list("a=5", "a=1", "c=2"), list("a=4", "a=", "b=7"), list("b=6", "c=1", "c=0")},
			"a=5 b=7 c=2", "a= b=6 c=0", "a=514 b=76 c=210"},
		{[][]api.Pair{list("a=1", "ab=2"), list("\x00=3", "a\x00=4", "b=5", "\xff=6")},
			"\x00=3 a=1 a\x00=4 ab=2 b=5 \xff=6", "\x00=3 a=1 a\x00=4 ab=2 b=5 \xff=6", "\x00=3 a=1 a\x00=4 ab=2 b=5 \xff=6"},
	} {
		for _, policy := range policies() {
			told := x.last
			switch policy {
			case First:
				told = x.first
			case All:
				told = x.all
			}
			want(t, fmt.Sprintf("Merge(%d, %v)", policy, x.runs), text(Merge(policy, x.runs...)), told)
		}
	}
}

// P13.2: many runs, some of them with keys of their own, and all with one in common.
func TestMergeManyRuns(t *testing.T) {
	var runs [][]api.Pair
	common := ""
	for i := range 300 {
		v := fmt.Sprint(i, ",")
		common += v
		runs = append(runs, list(fmt.Sprintf("k%03d=%d", 299-i, i), "m="+v, fmt.Sprintf("z%03d=%d", i, i)))
	}
	l := Merge(All, runs...)
	want(t, "keys", len(l), 601)
	for i, p := range l {
		switch {
		case i < 300:
			want(t, "pair", text(l[i:i+1]), fmt.Sprintf("k%03d=%d", i, 299-i))
		case i == 300:
			want(t, "pair in common", p, api.Pair{Key: "m", Value: common})
		default:
			want(t, "pair", text(l[i:i+1]), fmt.Sprintf("z%03d=%d", i-301, i-301))
		}
	}
}

// P13.2: runs that are not sorted: nobody panics, and each value is still told by All.
func TestMergeOfRunsThatAreNotSorted(t *testing.T) {
	for _, policy := range policies() {
		for _, runs := range [][][]api.Pair{
			{list("b=1", "a=2")},
			{list("c=1", "a=2", "b=3", "a=4"), list("b=5", "a=6", "=7")},
			{list("z=1", "=2", "z=3"), nil, list("y=4", "z=5", "a=6")},
		} {
			l := Merge(policy, runs...)
			if policy == All {
				size := 0
				for _, p := range l {
					size += len(p.Value)
				}
				want(t, fmt.Sprint(runs), size, len(slices.Concat(runs...)))
			}
		}
	}
}

// P13.2, R3: what is handed in stays as it is, and what is told shares nothing with it.
func TestMergeLeavesRunsAsTheyAre(t *testing.T) {
	spare := append(list("a=1", "c=2"), list("x=8", "y=9")...)
	runs := [][]api.Pair{spare[:2], list("a=3", "b=4"), list("a=5")}
	for _, policy := range policies() {
		l := Merge(policy, runs...)
		for i := range l {
			l[i] = api.Pair{Key: "other", Value: "other"}
		}
		_ = append(l, list("q=1", "r=2")...)
		want(t, "runs", fmt.Sprint(runs), "[[{a 1} {c 2}] [{a 3} {b 4}] [{a 5}]]")
		want(t, "behind the first run", text(spare), "a=1 c=2 x=8 y=9")
	}
	l := Merge(Last, runs[0])
	runs[0][0] = api.Pair{Key: "z", Value: "z"}
	want(t, "told ahead of a change", text(l), "a=1 c=2")
}

// P13.3: Load hands out as long as yield says true, and the collector stays as it is.
func TestLoadIsStoppedAnywhere(t *testing.T) {
	all := []string{"a=7", "b=12", "c=4", "d=3", "e=56"}
	for limit := 1; limit < 16; limit++ {
		c := made(t, limit, All)
		add(t, c, "b=1", "b=2", "d=3", "c=4", "e=5", "e=6", "a=7")
		before := stands(c)
		for n := 1; n <= len(all)+1; n++ {
			what := fmt.Sprintf("limit %d, %d pairs", limit, n)
			load := c.Load()
			told := strings.Join(all[:min(n, len(all))], " ")
			want(t, what, text(some(load, n)), told)
			want(t, what+", the same function again", text(some(load, n)), told)
			want(t, what+", by a range", text(ranged(c, n)), told)
			want(t, what+", the collector", stands(c), before)
		}
	}
}

func ranged(c *Collector, most int) []api.Pair {
	var l []api.Pair
	for p := range c.Load() {
		l = append(l, p)
		if len(l) == most {
			break
		}
	}
	return l
}

// P13.3: twice the same; what is told is its owner's.
func TestPairsTwice(t *testing.T) {
	for _, limit := range []int{1, 3, 5, 100} {
		c := made(t, limit, Last)
		add(t, c, "b=1", "a=2", "c=3")
		l := c.Pairs()
		for i := range l {
			l[i] = api.Pair{Key: "z", Value: "z"}
		}
		_ = append(l[:0], list("x=1", "y=2")...)
		want(t, fmt.Sprint("limit ", limit), text(c.Pairs()), "a=2 b=1 c=3")
	}
}

// P13.3: with nothing added nothing is handed out.
func TestLoadOfNothing(t *testing.T) {
	c := made(t, 1, First)
	want(t, "Load", len(some(c.Load(), 9)), 0)
	want(t, "Pairs", len(c.Pairs()), 0)
	add(t, c, "=")
	want(t, "Load of a pair without bytes", fmt.Sprint(some(c.Load(), 9)), "[{ }]")
}

// P13.3: Add behind a Load, and while its pairs are gone over: a Load behind it has the pair. R3: what Load told doesn't change.
func TestAddBehindALoad(t *testing.T) {
	for _, limit := range []int{1, 3, 4, 5, 100} {
		what := fmt.Sprint("limit ", limit)
		c := made(t, limit, Last)
		add(t, c, "b=1", "d=2")
		load := c.Load()
		add(t, c, "b=3", "a=4")
		want(t, what+", ahead of Add", text(some(load, 9)), "b=1 d=2")
		want(t, what+", behind it", text(c.Pairs()), "a=4 b=3 d=2")
		seen := ""
		for p := range c.Load() {
			add(t, c, p.Key+"=9", "z"+p.Key+"=1")
			seen += p.Key + p.Value
		}
		want(t, what+", while it is gone over", seen, "a4b3d2")
		want(t, what+", behind that", text(c.Pairs()), "a=9 b=9 d=9 za=1 zb=1 zd=1")
	}
}

// P13.3, R3: what each Load told stays as it was, whatever is added and loaded behind it.
func TestLoadsDoNotShareWhatChanges(t *testing.T) {
	for limit := 1; limit < 12; limit++ {
		c := made(t, limit, All)
		var loads []func(yield func(p api.Pair) bool)
		var told []string
		for i := range 40 {
			add(t, c, fmt.Sprintf("%c=%d", 'z'-i%7, i%10))
			loads, told = append(loads, c.Load()), append(told, text(c.Pairs()))
		}
		for i, load := range loads {
			want(t, fmt.Sprintf("limit %d, behind %d pairs", limit, i+1), text(some(load, 99)), told[i])
		}
	}
}

// P13.3: a load begun within another one has all pairs, too.
func TestLoadWithinALoad(t *testing.T) {
	c := made(t, 4, All)
	add(t, c, "b=1", "a=2", "b=3")
	load := c.Load()
	seen := ""
	for p := range load {
		seen += p.Key + ":" + text(some(load, 9)) + ";"
	}
	want(t, "seen", seen, "a:a=2 b=13;b:a=2 b=13;")
}

// P1: a yield that is none is never called.
func TestLoadIntoNothing(t *testing.T) {
	c := made(t, 4, All)
	add(t, c, "b=1", "a=2", "b=3")
	c.Load()(nil)
	(*Collector)(nil).Load()(nil)
	want(t, "collector", stands(c), "1 2: a=2 b=13")
}

func TestNilCollector(t *testing.T) {
	var c *Collector
	want(t, "Add", c.Add("a", "b"), api.ErrArg)
	want(t, "Runs", c.Runs(), 0)
	want(t, "Held", c.Held(), 0)
	want(t, "Load", len(some(c.Load(), 9)), 0)
	want(t, "Pairs", len(c.Pairs()), 0)
}

// P1: nothing is promised of a zero collector, but that nobody panics.
func TestZeroCollector(t *testing.T) {
	var c Collector
	want(t, "empty", len(c.Pairs())+c.Runs()+c.Held(), 0)
	c.Add("a", "b")
	c.Add("", "")
	for range c.Load() {
	}
}
