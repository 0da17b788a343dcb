package shard

import (
	"encoding/hex"
	"fmt"
	"math"
	"math/rand"
	"slices"
	"strings"
	"testing"

	"loess/api"
	"loess/bitset"
)

func unhex(t *testing.T, digits string) string {
	t.Helper()
	b, err := hex.DecodeString(strings.ReplaceAll(digits, " ", ""))
	if err != nil {
		t.Fatal(err)
	}
	return string(b)
}

// row is so many numbers from first on, each so far behind the one ahead of it.
func row(first, count, step int) []int {
	var l []int
	for i := range count {
		l = append(l, first+i*step)
	}
	return l
}

// split is the chunks of these numbers.
func split(members ...int) []api.Chunk {
	return Split(bitset.New(members...))
}

// with is a copy of l that has another chunk at a place.
func with(l []api.Chunk, at int, c api.Chunk) []api.Chunk {
	l = slices.Clone(l)
	l[at] = c
	return l
}

// sizes are how many members sets have, at and beside the edges of chunks.
func sizes() []int {
	return []int{0, 1, 2, 32, 33, 62, 63, 64, 65, 66, 127, 128, 129, 130, 191, 192, 193, 320}
}

// lists are the members of sets: close and far from each other, from 0 on, up to MaxBlock.
func lists() [][]int {
	l := [][]int{{0}, {5}, {api.MaxBlock - 1}, {api.MaxBlock}, {0, api.MaxBlock}, {5, 300, 1 << 24}}
	for _, n := range sizes() {
		l = append(l, row(0, n, 1), row(1, n, 1), row(10, n, 10), row(3, n, 300), row(api.MaxBlock-n, n, 1), row(api.MaxBlock+1-n, n, 1), append(row(7, n, 3), api.MaxBlock))
	}
	return l
}

// edges are numbers at and beside the edges of the members and of all numbers.
func edges() []int {
	return []int{math.MinInt, math.MinInt32, -65, -64, -1, 0, 1, 2, 63, 64, 65, 66, 128, 129, 640, 650, 1 << 24, api.MaxBlock - 64, api.MaxBlock - 1, api.MaxBlock, api.MaxBlock + 1, 1 << 32, 1<<32 + 5, math.MaxInt - 1, math.MaxInt}
}

// near are the edges, and the numbers at and beside those members that begin and end chunks.
func near(members []int) []int {
	l := edges()
	for i, m := range members {
		if i%64 <= 1 || i%64 >= 62 || i == len(members)-1 {
			l = append(l, m-1, m, m+1)
		}
	}
	return l
}

// shown is chunks for a message: their uppers and their bytes.
func shown(l []api.Chunk) string {
	text := ""
	for _, c := range l {
		text += fmt.Sprintf("(%d %x)", c.Upper, c.Data)
	}
	return text
}

func wantChunks(t *testing.T, what string, got []api.Chunk, e api.Errno, want []api.Chunk, wantErr api.Errno) {
	t.Helper()
	if !slices.Equal(got, want) || e != wantErr {
		t.Errorf("%s: %s error %d, want %s error %d", what, shown(got), e, shown(want), wantErr)
	}
}

func wantJoin(t *testing.T, what string, l []api.Chunk, members []int) {
	t.Helper()
	s, e := Join(l...)
	if s == nil || e != api.OK || !slices.Equal(s.Members(), members) {
		t.Errorf("Join, %s: %v error %d, want %v", what, s.Members(), e, members)
	}
}

// wantNone asks of chunks that are no set's each call that says so; what else is wrong with the call is told behind it.
func wantNone(t *testing.T, what string, l []api.Chunk) {
	t.Helper()
	if s, e := Join(l...); s != nil || e != api.ErrForm {
		t.Errorf("Join, %s: %v error %d", what, s.Members(), e)
	}
	for _, n := range edges() {
		got, e := Append(l, n)
		wantChunks(t, "Append, "+what, got, e, nil, api.ErrForm)
		got, e = Cut(l, n)
		wantChunks(t, "Cut, "+what, got, e, nil, api.ErrForm)
	}
}

func wantFind(t *testing.T, what string, l []api.Chunk, from, want int, there bool, wantErr api.Errno) {
	t.Helper()
	n, ok, e := Find(l, from)
	if n != want || ok != there || e != wantErr {
		t.Errorf("Find from %d, %s: %d %v error %d, want %d %v error %d", from, what, n, ok, e, want, there, wantErr)
	}
}

func wantWhich(t *testing.T, uppers []int, from, want int, there bool) {
	t.Helper()
	if at, ok := Which(uppers, from); at != want || ok != there {
		t.Errorf("Which of %v from %d: %d %v, want %d %v", uppers, from, at, ok, want, there)
	}
}

// The chapter's examples.
func TestExamples(t *testing.T) {
	l := split(row(1, 65, 1)...)
	first := unhex(t, "000000 3f fe"+strings.Repeat("ff", 7)+"01"+strings.Repeat("00", 23))
	wantChunks(t, "Split of 1 to 65", l, 0, []api.Chunk{{Upper: 64, Data: first}, {Upper: api.MaxBlock, Data: unhex(t, "000000 00 41")}}, 0)
	more, e := Append(l, 66)
	wantChunks(t, "Append of 66", more, e, []api.Chunk{{Upper: 64, Data: first}, {Upper: api.MaxBlock, Data: unhex(t, "000000 01 4142")}}, 0)
	less, e := Cut(more, 65)
	wantChunks(t, "Cut from 65", less, e, []api.Chunk{{Upper: api.MaxBlock, Data: first}}, 0)
	less, e = Cut(more, 1)
	wantChunks(t, "Cut from 1", less, e, nil, 0)
	wantFind(t, "of 1 to 66", more, 65, 65, true, 0)
	wantFind(t, "of 1 to 66", more, 67, 0, false, 0)
}

// P6.1: how many chunks, of how many members, by which uppers.
func TestSplitKnown(t *testing.T) {
	const last = api.MaxBlock
	for _, c := range []struct {
		count  int
		uppers []int
		most   int // members of the last one
	}{
		{0, nil, 0}, {1, []int{last}, 1}, {63, []int{last}, 63}, {64, []int{last}, 64}, {65, []int{640, last}, 1}, {66, []int{640, last}, 2},
		{127, []int{640, last}, 63}, {128, []int{640, last}, 64}, {129, []int{640, 1280, last}, 1}, {193, []int{640, 1280, 1920, last}, 1},
	} {
		members := row(10, c.count, 10)
		l := split(members...)
		if len(l) != len(c.uppers) {
			t.Fatalf("Split of %d members: %s", c.count, shown(l))
		}
		for i, upper := range c.uppers {
			want := 64
			if i == len(l)-1 {
				want = c.most
			}
			if l[i].Upper != upper || l[i].Data != bitset.New(members[i*64:i*64+want]...).Bytes() {
				t.Errorf("Split of %d members, chunk %d: %s", c.count, i, shown(l))
			}
		}
	}
}

// P6.1: a nil set and one without members have no chunks.
func TestSplitOfNone(t *testing.T) {
	cut := bitset.New(row(0, 100, 1)...)
	cut.Cut(0)
	for what, s := range map[string]*bitset.Set{"nil": nil, "new": bitset.New(), "zero": {}, "cut": cut} {
		if l := Split(s); len(l) != 0 {
			t.Errorf("Split of no members, %s: %s", what, shown(l))
		}
	}
}

// P6.1: MaxBlock is a member as others are: alone, as the last of a full chunk, as the first of a new one.
func TestSplitOfMaxBlock(t *testing.T) {
	const top = api.MaxBlock
	one := unhex(t, "7fffff 00 ff")
	full := bitset.New(append(row(1, 63, 1), top)...).Bytes()
	wantChunks(t, "MaxBlock alone", split(top), 0, []api.Chunk{{Upper: top, Data: one}}, 0)
	wantChunks(t, "0 and MaxBlock", split(0, top), 0, []api.Chunk{{Upper: top, Data: unhex(t, "000000 00 00 7fffff 00 ff")}}, 0)
	wantChunks(t, "63 and MaxBlock", split(append(row(1, 63, 1), top)...), 0, []api.Chunk{{Upper: top, Data: full}}, 0)
	wantChunks(t, "64 and MaxBlock", split(append(row(1, 64, 1), top)...), 0, []api.Chunk{chunkOf(64, row(1, 64, 1)...), {Upper: top, Data: one}}, 0)
}

// P6.1: Split, and Join of it, of sets of all kinds.
func TestSplitAndJoin(t *testing.T) {
	for _, members := range lists() {
		l := split(members...)
		wantChunks(t, "Split", l, 0, ruleSplit(members), 0)
		wantJoin(t, "of a Split", l, members)
	}
}

// P6.1: the set of no chunks is one that has no members yet.
func TestJoinOfNothing(t *testing.T) {
	for what, l := range map[string][]api.Chunk{"nil": nil, "no chunks": {}} {
		wantJoin(t, what, l, nil)
		if s, _ := Join(l...); !s.Add(5) {
			t.Errorf("Join, %s: no set", what)
		}
	}
	s, e := Join()
	if s == nil || e != api.OK || s.Len() != 0 {
		t.Errorf("Join of nothing: error %d", e)
	}
}

// P6.1: what is left when a chunk that isn't the last one is left out is another set's Split.
func TestJoinOfRest(t *testing.T) {
	members := row(1, 202, 3)
	l := split(members...)
	for i := range len(l) - 1 {
		rest := slices.Delete(slices.Clone(members), i*64, i*64+64)
		wantJoin(t, "one left out", slices.Delete(slices.Clone(l), i, i+1), rest)
	}
	wantJoin(t, "the last one alone", l[3:], members[192:])
	wantNone(t, "the last one left out", l[:3])
	wantJoin(t, "the last one left out, and the next one made the last", with(l[:3], 2, api.Chunk{Upper: api.MaxBlock, Data: l[2].Data}), members[:192])
}

// none are chunks that are no set's Split, by what is wrong with them; chunks are those of 202 numbers, each 3 above the one ahead of it.
func none() map[string][]api.Chunk {
	const top = api.MaxBlock
	m := row(1, 202, 3)
	l := ruleSplit(m)
	first, last := l[0], l[3]
	return map[string][]api.Chunk{
		"the last one left out":           l[:3],
		"the last two left out":           l[:2],
		"the first one alone":             l[:1],
		"the first one twice":             slices.Insert(slices.Clone(l), 0, first),
		"one twice":                       slices.Insert(slices.Clone(l), 2, l[1]),
		"the last one twice":              append(slices.Clone(l), last),
		"one again, later":                slices.Insert(slices.Clone(l), 2, first),
		"all twice":                       append(slices.Clone(l), l...),
		"the first two in another order":  {l[1], first, l[2], last},
		"two of the middle turned":        {first, l[2], l[1], last},
		"the last two in another order":   {first, l[1], last, l[2]},
		"all in another order":            {last, l[2], l[1], first},
		"the first and the last turned":   {last, l[1], l[2], first},
		"turned, by the others' uppers":   {{Upper: first.Upper, Data: l[1].Data}, {Upper: l[1].Upper, Data: first.Data}, l[2], last},
		"turned full ones, last by top":   {chunkOf(m[127], m[64:128]...), chunkOf(top, m[:64]...)},
		"an upper that is the next one's": with(l, 0, api.Chunk{Upper: l[1].Upper, Data: first.Data}),
		"an upper that is one ahead's":    with(l, 1, api.Chunk{Upper: first.Upper, Data: l[1].Data}),
		"an upper above its members":      with(l, 0, api.Chunk{Upper: m[63] + 1, Data: first.Data}),
		"an upper just below the next":    with(l, 0, api.Chunk{Upper: m[64] - 1, Data: first.Data}),
		"an upper below its greatest":     with(l, 1, api.Chunk{Upper: m[127] - 1, Data: l[1].Data}),
		"an upper that is its least":      with(l, 1, api.Chunk{Upper: m[64], Data: l[1].Data}),
		"an upper 0":                      with(l, 2, api.Chunk{Data: l[2].Data}),
		"an upper below 0":                with(l, 2, api.Chunk{Upper: -1, Data: l[2].Data}),
		"an upper MaxBlock ahead":         with(l, 2, api.Chunk{Upper: top, Data: l[2].Data}),
		"a first upper MaxBlock":          with(l, 0, api.Chunk{Upper: top, Data: first.Data}),
		"a last upper, its greatest":      with(l, 3, api.Chunk{Upper: m[201], Data: last.Data}),
		"a last upper below MaxBlock":     with(l, 3, api.Chunk{Upper: top - 1, Data: last.Data}),
		"a last upper above MaxBlock":     with(l, 3, api.Chunk{Upper: top + 1, Data: last.Data}),
		"a last upper 0":                  with(l, 3, api.Chunk{Data: last.Data}),
		"an only upper, its greatest":     {chunkOf(5, 5)},
		"an only upper below 0":           {chunkOf(-1, 5)},
		"an only full one, its greatest":  {first},
		"a first one of 63":               with(l, 0, chunkOf(m[63], m[1:64]...)),
		"a first one of 63, next of 64":   {chunkOf(m[62], m[:63]...), chunkOf(top, m[63:127]...)},
		"a middle one of 63":              with(l, 1, chunkOf(m[126], m[64:127]...)),
		"a middle one of 1":               with(l, 2, chunkOf(m[191], m[191])),
		"two of 1":                        {chunkOf(1, 1), chunkOf(top, 2)},
		"a first one of 65":               {chunkOf(m[64], m[:65]...), chunkOf(top, m[65:100]...)},
		"a middle one of 65":              {first, chunkOf(m[128], m[64:129]...), chunkOf(top, m[129:140]...)},
		"a last one of 65":                {first, chunkOf(top, m[64:129]...)},
		"an only one of 65":               {chunkOf(top, m[:65]...)},
		"an only one of 128":              {chunkOf(top, m[:128]...)},
		"an only one of 256":              {chunkOf(top, row(0, 256, 1)...)},
		"a first one of none":             with(l, 0, api.Chunk{Upper: first.Upper}),
		"a middle one of none":            with(l, 1, api.Chunk{Upper: l[1].Upper}),
		"a last one of none":              with(l, 3, api.Chunk{Upper: top}),
		"a full one, and one of none":     {first, {Upper: top}},
		"an only one of none":             {{Upper: top}},
		"a zero chunk":                    {{}},
		"a zero chunk behind them":        append(slices.Clone(l), api.Chunk{}),
		"one of none behind them":         append(slices.Clone(l), api.Chunk{Upper: top}),
		"a zero chunk ahead of them":      slices.Insert(slices.Clone(l), 0, api.Chunk{}),
		"a first one's bytes cut short":   with(l, 0, api.Chunk{Upper: first.Upper, Data: first.Data[:len(first.Data)-1]}),
		"a middle one's with one more":    with(l, 1, api.Chunk{Upper: l[1].Upper, Data: l[1].Data + "\x00"}),
		"a last one's cut short":          with(l, 3, api.Chunk{Upper: top, Data: last.Data[1:]}),
		"a last one that is no set":       with(l, 3, api.Chunk{Upper: top, Data: "x"}),
		"an only one that is no set":      {{Upper: top, Data: "\x00\x00\x00\x01\x05\x05"}},
		"an only one above MaxBlock":      {{Upper: top, Data: "\x80\x00\x00\x00\x00"}},
		"an edge that is in both":         {first, chunkOf(top, m[63:100]...)},
		"an edge that is in both, full":   {first, chunkOf(m[126], m[63:127]...), chunkOf(top, m[127:130]...)},
		"the second begins ahead":         {first, chunkOf(top, append([]int{0}, m[64:100]...)...)},
		"the second lies in the first":    {chunkOf(127, row(1, 64, 2)...), chunkOf(top, 2, 4, 6)},
		"the second is around the first":  {chunkOf(163, row(100, 64, 1)...), chunkOf(top, 99, 164)},
		"the first has MaxBlock":          {chunkOf(top, append(row(0, 63, 1), top)...), chunkOf(top, top)},
		"the first has MaxBlock, then 63": {chunkOf(top, append(row(0, 63, 1), top)...), chunkOf(top, 63)},
	}
}

// P6.1, P6.2: each way in which chunks are no set's.
func TestNone(t *testing.T) {
	for what, l := range none() {
		if _, ok := ruleJoin(l); ok {
			t.Errorf("%s: a set's by the rules", what)
		}
		wantNone(t, what, l)
	}
}

// P6.2: at, below and above the last member, told one by one.
func TestAppendKnown(t *testing.T) {
	const top = api.MaxBlock
	for _, c := range []struct {
		members []int
		n       int
		e       api.Errno
	}{
		{nil, 0, api.OK}, {nil, 7, api.OK}, {nil, top, api.OK}, {nil, -1, api.ErrArg}, {nil, math.MinInt, api.ErrArg}, {nil, top + 1, api.ErrArg}, {nil, math.MaxInt, api.ErrArg},
		{[]int{0}, 0, api.ErrArg}, {[]int{0}, 1, api.OK}, {[]int{0}, -1, api.ErrArg},
		{[]int{5}, 6, api.OK}, {[]int{5}, 5, api.ErrArg}, {[]int{5}, 4, api.ErrArg}, {[]int{5}, 0, api.ErrArg}, {[]int{5}, -1, api.ErrArg}, {[]int{5}, top, api.OK}, {[]int{5}, top + 1, api.ErrArg},
		{[]int{top}, top, api.ErrArg}, {[]int{top}, top - 1, api.ErrArg}, {[]int{top}, top + 1, api.ErrArg}, {[]int{top}, 0, api.ErrArg},
		{row(10, 63, 10), 631, api.OK}, {row(10, 63, 10), 630, api.ErrArg}, {row(10, 63, 10), 629, api.ErrArg},
		{row(10, 64, 10), 641, api.OK}, {row(10, 64, 10), 640, api.ErrArg}, {row(10, 64, 10), 639, api.ErrArg}, {row(10, 64, 10), 0, api.ErrArg}, {row(10, 64, 10), top, api.OK}, {row(10, 64, 10), top + 1, api.ErrArg},
		{row(10, 65, 10), 651, api.OK}, {row(10, 65, 10), 650, api.ErrArg}, {row(10, 65, 10), 649, api.ErrArg}, {row(10, 65, 10), 641, api.ErrArg}, {row(10, 65, 10), 640, api.ErrArg}, {row(10, 65, 10), 639, api.ErrArg},
		{row(10, 128, 10), 1281, api.OK}, {row(10, 128, 10), 1280, api.ErrArg}, {row(10, 128, 10), 15, api.ErrArg}, {row(10, 128, 10), -1, api.ErrArg},
	} {
		var want []api.Chunk
		if c.e == api.OK {
			want = ruleSplit(append(slices.Clone(c.members), c.n))
		}
		got, e := Append(ruleSplit(c.members), c.n)
		wantChunks(t, "Append", got, e, want, c.e)
	}
}

// P6.2: a full last chunk is known by its greatest member once another one is behind it; one that is not full grows.
func TestAppendUppers(t *testing.T) {
	l, e := Append(split(row(1, 64, 1)...), 100)
	wantChunks(t, "to a full one", l, e, []api.Chunk{chunkOf(64, row(1, 64, 1)...), chunkOf(api.MaxBlock, 100)}, 0)
	l, e = Append(l, 200)
	wantChunks(t, "to one that isn't", l, e, []api.Chunk{chunkOf(64, row(1, 64, 1)...), chunkOf(api.MaxBlock, 100, 200)}, 0)
	l, e = Append(split(row(1, 63, 1)...), 100)
	wantChunks(t, "that fills one", l, e, []api.Chunk{chunkOf(api.MaxBlock, append(row(1, 63, 1), 100)...)}, 0)
	l, e = Append(nil, 100)
	wantChunks(t, "to none", l, e, []api.Chunk{chunkOf(api.MaxBlock, 100)}, 0)
}

// P6.2: Append and Cut at all edges, and beside the chunks' own.
func TestChanged(t *testing.T) {
	for _, members := range lists() {
		l := ruleSplit(members)
		for _, n := range near(members) {
			want, wantErr := ruleAppend(l, n)
			got, e := Append(l, n)
			wantChunks(t, "Append", got, e, want, wantErr)
			want, wantErr = ruleCut(l, n)
			got, e = Cut(l, n)
			wantChunks(t, "Cut", got, e, want, wantErr)
		}
	}
}

// P6.2: below 0, at a member, between two, at a chunk's edge, behind all; told by how many are left.
func TestCutKnown(t *testing.T) {
	members := row(10, 130, 10)
	for _, c := range []struct{ from, left int }{
		{math.MinInt, 0}, {-1, 0}, {0, 0}, {9, 0}, {10, 0}, {11, 1}, {15, 1}, {20, 1}, {21, 2},
		{630, 62}, {631, 63}, {640, 63}, {641, 64}, {650, 64}, {651, 65}, {660, 65},
		{1270, 126}, {1280, 127}, {1281, 128}, {1290, 128}, {1291, 129}, {1300, 129}, {1301, 130}, {api.MaxBlock, 130}, {api.MaxBlock + 1, 130}, {math.MaxInt, 130},
	} {
		got, e := Cut(ruleSplit(members), c.from)
		wantChunks(t, "Cut", got, e, ruleSplit(members[:c.left]), 0)
	}
	for _, from := range edges() {
		for _, l := range [][]api.Chunk{nil, {}} {
			got, e := Cut(l, from)
			wantChunks(t, "Cut of no chunks", got, e, nil, 0)
		}
	}
	got, e := Cut(split(5, api.MaxBlock), api.MaxBlock)
	wantChunks(t, "Cut from MaxBlock", got, e, split(5), 0)
	got, e = Cut(split(5, api.MaxBlock), api.MaxBlock+1)
	wantChunks(t, "Cut from above MaxBlock", got, e, split(5, api.MaxBlock), 0)
}

// P6.3: of none, below, at and behind each; the first one counts, in whatever order they are.
func TestWhich(t *testing.T) {
	for _, from := range edges() {
		wantWhich(t, nil, from, 0, false)
		wantWhich(t, []int{}, from, 0, false)
	}
	for _, c := range []struct {
		uppers   []int
		from, at int
		there    bool
	}{
		{[]int{5}, 4, 0, true}, {[]int{5}, 5, 0, true}, {[]int{5}, 6, 0, false}, {[]int{5}, math.MinInt, 0, true}, {[]int{5}, math.MaxInt, 0, false},
		{[]int{5, 9, 20}, -1, 0, true}, {[]int{5, 9, 20}, 4, 0, true}, {[]int{5, 9, 20}, 5, 0, true}, {[]int{5, 9, 20}, 6, 1, true}, {[]int{5, 9, 20}, 8, 1, true},
		{[]int{5, 9, 20}, 9, 1, true}, {[]int{5, 9, 20}, 10, 2, true}, {[]int{5, 9, 20}, 20, 2, true}, {[]int{5, 9, 20}, 21, 0, false},
		{[]int{64, api.MaxBlock}, api.MaxBlock, 1, true}, {[]int{64, api.MaxBlock}, api.MaxBlock + 1, 0, false},
		{[]int{-7, -3, 0}, -7, 0, true}, {[]int{-7, -3, 0}, -6, 1, true}, {[]int{-7, -3, 0}, 0, 2, true}, {[]int{-7, -3, 0}, 1, 0, false},
		{[]int{5, 5, 5}, 5, 0, true}, {[]int{5, 9, 9}, 9, 1, true},
		{[]int{20, 9, 5}, 5, 0, true}, {[]int{20, 9, 5}, 20, 0, true}, {[]int{1, 9, 2, 8, 3}, 3, 1, true}, {[]int{1, 9, 2, 10, 3}, 10, 3, true}, {[]int{30, 1, 2, 3, 4, 5}, 6, 0, true}, {[]int{1, 2, 3, 4, 5, 30, 6}, 30, 5, true},
		{[]int{math.MinInt, math.MaxInt}, math.MinInt, 0, true}, {[]int{math.MinInt, math.MaxInt}, math.MaxInt, 1, true},
	} {
		wantWhich(t, c.uppers, c.from, c.at, c.there)
	}
	draw := rand.New(rand.NewSource(1))
	for range 2000 {
		uppers := make([]int, draw.Intn(8))
		for i := range uppers {
			uppers[i] = draw.Intn(20) - 5
		}
		for from := -7; from < 17; from++ {
			at, there := ruleWhich(uppers, from)
			wantWhich(t, uppers, from, at, there)
		}
	}
}

// P6.3: below 0, at members, between two chunks, behind the last, told one by one.
func TestFindKnown(t *testing.T) {
	l := split(row(10, 130, 10)...)
	for _, c := range []struct {
		from, want int
		there      bool
	}{
		{math.MinInt, 10, true}, {-1, 10, true}, {0, 10, true}, {10, 10, true}, {11, 20, true}, {639, 640, true}, {640, 640, true}, {641, 650, true}, {649, 650, true}, {650, 650, true}, {651, 660, true},
		{1280, 1280, true}, {1281, 1290, true}, {1290, 1290, true}, {1291, 1300, true}, {1300, 1300, true}, {1301, 0, false}, {api.MaxBlock, 0, false}, {api.MaxBlock + 1, 0, false}, {math.MaxInt, 0, false},
	} {
		wantFind(t, "of 10 to 1300", l, c.from, c.want, c.there, 0)
	}
	for _, from := range edges() {
		wantFind(t, "of nil", nil, from, 0, false, 0)
		wantFind(t, "of no chunks", []api.Chunk{}, from, 0, false, 0)
	}
	wantFind(t, "of MaxBlock", split(api.MaxBlock), 0, api.MaxBlock, true, 0)
	wantFind(t, "of MaxBlock", split(api.MaxBlock), api.MaxBlock, api.MaxBlock, true, 0)
	wantFind(t, "of MaxBlock", split(api.MaxBlock), api.MaxBlock+1, 0, false, 0)
	wantFind(t, "of 0", split(0), 0, 0, true, 0)
	wantFind(t, "of 0", split(0), 1, 0, false, 0)
}

// P6.3: bytes that are no set's count where they are asked alone: in the chunk that the uppers say, and in the next one if that has none.
func TestFindOfNoSet(t *testing.T) {
	const top = api.MaxBlock
	no := func(upper int) api.Chunk { return api.Chunk{Upper: upper, Data: "\x00\x00\x00\x01\x05\x05"} }
	asked := []api.Chunk{no(10), chunkOf(20, 15, 20), chunkOf(top, 25)}
	wantFind(t, "the one that is asked", asked, 5, 0, false, api.ErrForm)
	wantFind(t, "the one that is asked", asked, 10, 0, false, api.ErrForm)
	wantFind(t, "the one ahead", asked, 11, 15, true, 0)
	wantFind(t, "the one ahead, the next asked", []api.Chunk{no(10), chunkOf(20, 15), chunkOf(top, 25)}, 16, 25, true, 0)
	next := []api.Chunk{chunkOf(10, 3, 6), no(20), chunkOf(top, 25)}
	wantFind(t, "the next, not asked", next, 6, 6, true, 0)
	wantFind(t, "the next, asked", next, 7, 0, false, api.ErrForm)
	wantFind(t, "the one that is asked", next, 11, 0, false, api.ErrForm)
	wantFind(t, "one far ahead", next, 21, 25, true, 0)
	wantFind(t, "behind all", next, top+1, 0, false, 0)
	far := []api.Chunk{chunkOf(10, 3), chunkOf(20, 15), no(top)}
	wantFind(t, "one behind the next", far, 4, 15, true, 0)
	wantFind(t, "one behind the next, none in both", []api.Chunk{chunkOf(10, 3), chunkOf(20, 3), no(top)}, 4, 0, false, 0)
	wantFind(t, "the last", far, 16, 0, false, api.ErrForm)
	wantFind(t, "the last", far, 21, 0, false, api.ErrForm)
	wantFind(t, "one alone", []api.Chunk{no(top)}, 0, 0, false, api.ErrForm)
	wantFind(t, "one alone, not asked", []api.Chunk{no(10)}, 11, 0, false, 0)
}

// P6.3: chunks that are no Split's: what is asked is told, nothing is asked of the others.
func TestFindOfNoSplit(t *testing.T) {
	const top = api.MaxBlock
	wantFind(t, "a third one is not asked", []api.Chunk{chunkOf(10, 1), chunkOf(20, 2), chunkOf(top, 30)}, 5, 0, false, 0)
	wantFind(t, "one without members, then the next", []api.Chunk{{Upper: 10}, chunkOf(top, 30)}, 5, 30, true, 0)
	wantFind(t, "two without members", []api.Chunk{{Upper: 10}, {Upper: 20}, chunkOf(top, 30)}, 5, 0, false, 0)
	wantFind(t, "a zero chunk", []api.Chunk{{}}, 0, 0, false, 0)
	wantFind(t, "a zero chunk", []api.Chunk{{}}, 1, 0, false, 0)
	wantFind(t, "members above the upper", []api.Chunk{chunkOf(10, 50), chunkOf(top, 30)}, 5, 50, true, 0)
	wantFind(t, "the next one's below", []api.Chunk{chunkOf(10, 1), chunkOf(top, 4, 6)}, 5, 6, true, 0)
	wantFind(t, "the next one's upper below", []api.Chunk{chunkOf(10, 1), chunkOf(2, 4, 6)}, 5, 6, true, 0)
	wantFind(t, "falling uppers", []api.Chunk{chunkOf(20, 7), chunkOf(10, 6)}, 5, 7, true, 0)
	wantFind(t, "falling uppers", []api.Chunk{chunkOf(20, 7), chunkOf(10, 9), chunkOf(30, 8)}, 8, 9, true, 0)
	wantFind(t, "uppers below 0", []api.Chunk{chunkOf(-5, 7), chunkOf(-1, 9)}, -3, 9, true, 0)
	wantFind(t, "uppers below 0", []api.Chunk{chunkOf(-5, 7), chunkOf(-1, 9)}, 0, 0, false, 0)
	wantFind(t, "an upper above MaxBlock", []api.Chunk{chunkOf(math.MaxInt, 7)}, math.MaxInt, 0, false, 0)
	wantFind(t, "many members", []api.Chunk{chunkOf(top, row(0, 300, 2)...)}, 401, 402, true, 0)
	for what, l := range none() {
		for _, from := range near(row(1, 202, 3)) {
			want, there, e := ruleFind(l, from)
			wantFind(t, what, l, from, want, there, e)
		}
	}
}

// P6.4: chunks appended one by one are those of the whole set, at each step.
func TestAppendOneByOne(t *testing.T) {
	draw := rand.New(rand.NewSource(2))
	for _, step := range []int{1, 2, 10, 300, 100000} {
		var l []api.Chunk
		var members []int
		n, e := -1, api.OK
		for range 400 {
			n += 1 + draw.Intn(step)
			members = append(members, n)
			l, e = Append(l, n)
			wantChunks(t, "one by one", l, e, split(members...), 0)
		}
		wantChunks(t, "in the end", l, e, ruleSplit(members), 0)
	}
}

// P6.4: cut one by one, those of the rest; and what is appended behind a Cut is as if it was never there.
func TestCutOneByOne(t *testing.T) {
	members := row(7, 200, 5)
	l := split(members...)
	for i := len(members) - 1; i >= 0; i-- {
		less, e := Cut(l, members[i])
		wantChunks(t, "one by one", less, e, ruleSplit(members[:i]), 0)
		again, e := Append(less, members[i])
		wantChunks(t, "back again", again, e, l, 0)
		l = less
	}
}

// P6.4: Find finds what the set's Least does.
func TestFindAsLeast(t *testing.T) {
	for _, members := range lists() {
		s := bitset.New(members...)
		l := Split(s)
		for _, from := range near(members) {
			want, there := s.Least(from)
			wantFind(t, "of a Split", l, from, want, there, 0)
			if n, ok := ruleLeast(members, from); n != want || ok != there {
				t.Errorf("Least from %d: %d %v", from, want, there)
			}
		}
	}
	s := bitset.New(row(3, 200, 4)...)
	l := Split(s)
	for from := -2; from < 810; from++ {
		want, there := s.Least(from)
		wantFind(t, "of each number", l, from, want, there, 0)
	}
}

// P6.2, P6.4: Append and Cut in any order, held against the list behind each.
func TestAnyOrder(t *testing.T) {
	draw := rand.New(rand.NewSource(3))
	for _, step := range []int{2, 40, 1 << 20} {
		var l []api.Chunk
		for range 1200 {
			members, ok := ruleJoin(l)
			if !ok {
				t.Fatalf("no set's: %s", shown(l))
			}
			n := draw.Intn(step)
			if len(members) > 0 {
				n += members[len(members)-1]
			}
			want, wantErr := ruleAppend(l, n)
			got, e := Append(l, n)
			if draw.Intn(60) == 0 && len(members) > 0 {
				n = members[draw.Intn(len(members))] - draw.Intn(2)
				want, wantErr = ruleCut(l, n)
				got, e = Cut(l, n)
			}
			wantChunks(t, "in any order", got, e, want, wantErr)
			if e == api.OK {
				l = got
			}
		}
	}
}

// changed is l with one thing of it another one, by chance.
func changed(draw *rand.Rand, l []api.Chunk) []api.Chunk {
	l = slices.Clone(l)
	if len(l) == 0 {
		return append(l, api.Chunk{Upper: api.MaxBlock})
	}
	i, j := draw.Intn(len(l)), draw.Intn(len(l))
	c := &l[i]
	s, _ := bitset.Read(c.Data)
	switch draw.Intn(8) {
	case 0:
		l = slices.Delete(l, i, i+1)
	case 1:
		l = slices.Insert(l, j, *c)
	case 2:
		l[i], l[j] = l[j], l[i]
	case 3:
		c.Upper = l[j].Upper
	case 4:
		c.Upper += draw.Intn(3) - 1
	case 5:
		if at := draw.Intn(len(c.Data) + 1); at < len(c.Data) {
			c.Data = c.Data[:at] + string([]byte{byte(draw.Intn(256))}) + c.Data[at+1:]
		}
	case 6:
		c.Data = s.Union(bitset.New(draw.Intn(700))).Bytes()
	case 7:
		c.Data = bitset.New(slices.DeleteFunc(s.Members(), func(int) bool { return draw.Intn(64) == 0 })...).Bytes()
	}
	return l
}

// P6.1 to P6.3: chunks that are nearly a Split's, held against the rules.
func TestNearlyChunks(t *testing.T) {
	draw := rand.New(rand.NewSource(4))
	right := 0
	for range 6000 {
		l := ruleSplit(row(draw.Intn(3), draw.Intn(230), 1+draw.Intn(3)))
		for range 1 + draw.Intn(2) {
			l = changed(draw, l)
		}
		wantAll(t, l, draw.Intn(700)-5)
		if _, ok := ruleJoin(l); ok {
			right++
		}
	}
	if right == 0 || right == 6000 {
		t.Errorf("%d of 6000 are a set's: nothing is held against each other", right)
	}
}

// wantAll holds every call on chunks against the rules.
func wantAll(t *testing.T, l []api.Chunk, n int) {
	t.Helper()
	s, e := Join(l...)
	if members, ok := ruleJoin(l); ok != (e == api.OK) || ok != (s != nil) || ok && !slices.Equal(s.Members(), members) || !ok && e != api.ErrForm {
		t.Errorf("Join of %s: %v error %d", shown(l), s.Members(), e)
	}
	want, wantErr := ruleAppend(l, n)
	got, e := Append(l, n)
	wantChunks(t, "Append to "+shown(l), got, e, want, wantErr)
	want, wantErr = ruleCut(l, n)
	got, e = Cut(l, n)
	wantChunks(t, "Cut of "+shown(l), got, e, want, wantErr)
	least, there, wantErr := ruleFind(l, n)
	wantFind(t, shown(l), l, n, least, there, wantErr)
}

// R3: what is handed in stays as it is, also behind a list's end; what is told shares nothing with it.
func TestMemory(t *testing.T) {
	members := row(1, 150, 2)
	room := append(ruleSplit(members), chunkOf(1, 1), chunkOf(2, 2), chunkOf(3, 3))
	before := slices.Clone(room)
	l := room[:3]
	more, _ := Append(l, 1000)
	grown, _ := Append(ruleSplit(row(1, 128, 2)), 1000)
	less, _ := Cut(l, 150)
	same, _ := Cut(l, 1000)
	s, _ := Join(l...)
	Find(l, 0)
	Which([]int{5, 9}, 6)
	if !slices.Equal(room, before) {
		t.Errorf("what is handed in is changed: %s", shown(room))
	}
	s.Add(2000)
	s.Cut(100)
	for _, told := range [][]api.Chunk{more, grown, less, same} {
		for i := range told {
			told[i] = api.Chunk{}
		}
		_ = append(told, api.Chunk{Upper: 7})
	}
	if !slices.Equal(room, before) {
		t.Errorf("what is told is what was handed in: %s", shown(room))
	}
	more, _ = Append(l, 1000)
	same, _ = Cut(l, 1000)
	s, _ = Join(l...)
	clear(room)
	wantChunks(t, "behind a change of its list", more, 0, ruleSplit(append(row(1, 150, 2), 1000)), 0)
	wantChunks(t, "behind a change of its list", same, 0, ruleSplit(members), 0)
	if !slices.Equal(s.Members(), members) {
		t.Errorf("Join behind a change of its list: %v", s.Members())
	}
}

// R3: a set that is split stays as it is, and its chunks don't change with it.
func TestSplitMemory(t *testing.T) {
	members := row(1, 150, 2)
	s := bitset.New(members...)
	l := Split(s)
	if !slices.Equal(s.Members(), members) {
		t.Errorf("Split changed its set: %v", s.Members())
	}
	s.Add(1000)
	s.Cut(9)
	wantChunks(t, "behind a change of its set", l, 0, ruleSplit(members), 0)
	clear(l)
	if s.Len() != 4 {
		t.Errorf("the set behind a change of its chunks: %v", s.Members())
	}
	uppers := []int{9, 5}
	if Which(uppers, 3); !slices.Equal(uppers, []int{9, 5}) {
		t.Errorf("Which changed its list: %v", uppers)
	}
}

// R5: many chunks; chunks of very many members, and bytes that are long and none.
func TestLong(t *testing.T) {
	members := row(5, 100000, 7)
	s := bitset.New(members...)
	l := Split(s)
	if !slices.Equal(l, ruleSplit(members)) {
		t.Error("Split of many is wrong")
	}
	if back, e := Join(l...); e != api.OK || !slices.Equal(back.Members(), members) {
		t.Error("Join of many is wrong")
	}
	more, e := Append(l, api.MaxBlock)
	if e != api.OK || !slices.Equal(more, ruleSplit(append(members, api.MaxBlock))) {
		t.Error("Append to many is wrong")
	}
	less, e := Cut(l, members[50000])
	if e != api.OK || !slices.Equal(less, ruleSplit(members[:50000])) {
		t.Error("Cut of many is wrong")
	}
	wantFind(t, "of many", l, members[70000]+1, members[70001], true, 0)
	many := bitset.New(row(0, 1<<18, 1)...).Bytes()
	wantNone(t, "very many members", []api.Chunk{{Upper: api.MaxBlock, Data: many}})
	wantFind(t, "of very many", []api.Chunk{{Upper: api.MaxBlock, Data: many}}, 200001, 200001, true, 0)
	wantNone(t, "long bytes", []api.Chunk{{Upper: api.MaxBlock, Data: strings.Repeat("\xff", 1<<20)}})
	wantNone(t, "chunks of nothing", make([]api.Chunk, 10000))
}

// P1: each call ends at any chunks, and tells what the rules tell.
func FuzzChunks(f *testing.F) {
	for _, members := range lists() {
		if l := ruleSplit(members); len(l) == 2 {
			f.Add(l[0].Upper, l[0].Data, l[1].Upper, l[1].Data, members[0]+1)
		}
	}
	f.Add(10, "", api.MaxBlock, "\x00\x00\x00\x01\x05\x05", -1)
	f.Add(math.MinInt, "x", math.MaxInt, "\x80\x00\x00\x00\x05", math.MaxInt)
	f.Fuzz(func(t *testing.T, first int, some string, last int, others string, n int) {
		a, b := api.Chunk{Upper: first, Data: some}, api.Chunk{Upper: last, Data: others}
		for _, l := range [][]api.Chunk{{a}, {b}, {a, b}, {b, a}, {a, b, a}} {
			wantAll(t, l, n)
		}
	})
}
