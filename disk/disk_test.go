package disk

import (
	"fmt"
	"math"
	"math/rand"
	"slices"
	"strings"
	"testing"

	"loess/api"
)

// sheet is a page whose sectors are full of these letters, a point being zeros; of one letter: all of it.
func sheet(letters string) string {
	if len(letters) == 1 {
		letters = strings.Repeat(letters, 4)
	}
	text := ""
	for _, r := range strings.ReplaceAll(letters, ".", "\x00") {
		text += strings.Repeat(string(r), 256)
	}
	return text
}

// letters is the sectors of a page, a letter each.
func letters(text string) string {
	if len(text) != 1024 {
		return fmt.Sprintf("%d bytes", len(text))
	}
	short := text[:1] + text[256:257] + text[512:513] + text[768:769]
	if short = strings.ReplaceAll(short, "\x00", "."); sheet(short) != text {
		return "no such page"
	}
	return short
}

// read is a page as an operation tells it.
func read(d *Disk, n int) string {
	text, e := d.Read(n)
	if e != api.OK {
		return text + told(e)
	}
	return letters(text)
}

// seen is pages from 0 on as they stand, without an operation of the device, whatever its faults and its limit are.
func seen(d *Disk, pages int) string {
	c := d.Copy()
	c.Clear()
	c.Limit(api.MaxPages)
	all := make([]string, pages)
	for n := range pages {
		all[n] = read(c, n)
	}
	return strings.Join(all, " ")
}

// lasting is pages from 0 on as they last.
func lasting(d *Disk, pages int) string {
	c := d.Copy()
	c.Crash()
	return seen(c, pages)
}

// told is errors by their numbers.
func told(l ...api.Errno) string {
	all := make([]string, len(l))
	for i, e := range l {
		all[i] = fmt.Sprint(int(e))
	}
	return strings.Join(all, " ")
}

func want[T comparable](t *testing.T, what string, got, want T) {
	t.Helper()
	if got != want {
		t.Errorf("%s: %.400q, want %.400q", what, fmt.Sprint(got), fmt.Sprint(want))
	}
}

// some is a device of four pages: 0 never written, 1 lasts, 2 does not, 3 lasts and has a write that doesn't.
func some() *Disk {
	d := New(4)
	d.Write(1, sheet("a"))
	d.Write(3, sheet("b"))
	d.Sync()
	d.Write(2, sheet("cdef"))
	d.Write(3, sheet("g"))
	return d
}

// dark is a device whose power is gone.
func dark() *Disk {
	d := some()
	d.Arm(0)
	d.Sync()
	return d
}

func numbers() []int {
	return []int{math.MinInt, math.MinInt32, -65536, -2, -1, 0, 1, 2, 3, 4, 5, 1023, 1024, 65535, 65536, 65537, math.MaxInt32, 1 << 32, 1<<32 + 1, math.MaxInt - 1, math.MaxInt}
}

// The chapter's examples.
func TestExamples(t *testing.T) {
	d := New(4)
	want(t, "Write", d.Write(1, sheet("x")), api.OK)
	want(t, "Read", read(d, 1), "xxxx")
	d.Crash()
	want(t, "Read behind a crash", read(d, 1), "....")

	want(t, "Write, Sync, Write", told(d.Write(1, sheet("x")), d.Sync(), d.Write(1, sheet("y"))), "0 0 0")
	d.Crash(1, 0, 0, 1)
	want(t, "Read behind a torn write", read(d, 1), "yxxy")

	d.Arm(1)
	want(t, "Arm(1), Write, Write", told(d.Write(1, sheet("x")), d.Write(1, sheet("x"))), "0 15")
	want(t, "On", d.On(), false)

	d.Crash()
	d.Fail(2)
	want(t, "Fail(2), Write, Write, Write", told(d.Write(1, sheet("x")), d.Write(1, sheet("x")), d.Write(1, sheet("x"))), "0 14 0")
}

// P7.1: New keeps the number of pages from 0 to MaxPages, and gives power; nothing was done yet.
func TestNew(t *testing.T) {
	for _, n := range numbers() {
		d := New(n)
		what := fmt.Sprintf("New(%d)", n)
		pages := min(max(n, 0), 65536)
		want(t, what+", pages", d.Pages(), pages)
		want(t, what+", On", d.On(), true)
		want(t, what+", Used", d.Used(), 0)
		want(t, what+", Ops", d.Ops(), 0)
		want(t, what+", Sync", d.Sync(), api.OK)
		want(t, what+", behind the last page", told(d.Write(pages, sheet("x")))+" "+read(d, pages), "1 1")
		if pages > 0 {
			want(t, what+", the last page", told(d.Write(pages-1, sheet("x")))+" "+read(d, pages-1), "0 xxxx")
		}
	}
}

// P7.1: which pages there are.
func TestNumberOfPage(t *testing.T) {
	for _, pages := range []int{0, 1, 4, 65535, 65536} {
		for _, n := range append(numbers(), pages-1, pages, pages+1) {
			d := New(pages)
			what := fmt.Sprintf("page %d of %d", n, pages)
			if n >= 0 && n < pages {
				want(t, what, read(d, n)+" "+told(d.Write(n, sheet("abcd")))+" "+read(d, n), ".... 0 abcd")
				want(t, what+", Used", d.Used(), n+1)
				continue
			}
			want(t, what, read(d, n)+" "+told(d.Write(n, sheet("abcd")))+" "+read(d, n), "1 1 1")
			want(t, what+", Used and Ops", d.Used()+d.Ops(), 0)
		}
	}
}

// P7.1: a write has just PageSize bytes; else nothing is written.
func TestSizeOfWrite(t *testing.T) {
	for _, size := range []int{0, 1, 255, 256, 512, 768, 1013, 1023, 1025, 1280, 2048, 1 << 20} {
		d := some()
		ops := d.Ops()
		data := strings.Repeat("z", size)
		want(t, fmt.Sprintf("Write of %d bytes", size), told(d.Write(0, data), d.Write(1, data), d.Write(3, data), d.Write(4, data)), "1 1 1 1")
		want(t, "Ops", d.Ops(), ops)
		want(t, "pages", seen(d, 4), ".... aaaa cdef gggg")
		d.Sync()
		want(t, "Used", d.Used(), 4)
		want(t, "pages that last", lasting(d, 4), ".... aaaa cdef gggg")
	}
	d := New(1)
	bytes := ""
	for i := range 1024 {
		bytes += string([]byte{byte(i ^ i>>8)})
	}
	want(t, "Write of all bytes", d.Write(0, bytes), api.OK)
	text, _ := d.Read(0)
	want(t, "Read of all bytes", text, bytes)
	d.Crash(1, 1, 1, 1)
	text, _ = d.Read(0)
	want(t, "Read of all bytes, behind a crash", text, bytes)
}

// P7.1: Read tells the last write, whether it lasts or not, and of each page its own.
func TestReadIsLastWrite(t *testing.T) {
	d := New(3)
	want(t, "never written", seen(d, 3), ".... .... ....")
	d.Write(0, sheet("abcd"))
	d.Write(2, sheet("e"))
	want(t, "written", read(d, 0)+" "+read(d, 1)+" "+read(d, 2), "abcd .... eeee")
	d.Write(0, sheet("f"))
	want(t, "written twice", read(d, 0)+" "+read(d, 1)+" "+read(d, 2), "ffff .... eeee")
	d.Sync()
	want(t, "synced", read(d, 0)+" "+read(d, 1)+" "+read(d, 2), "ffff .... eeee")
	d.Write(0, sheet("g"))
	d.Write(0, sheet("abcd"))
	d.Write(2, sheet("."))
	want(t, "written over what lasts", read(d, 0)+" "+read(d, 1)+" "+read(d, 2), "abcd .... ....")
}

// P7.1: all writes ahead of a Sync last, none behind it; a Sync of no writes changes nothing.
func TestSync(t *testing.T) {
	d := New(3)
	want(t, "Sync of no writes", d.Sync(), api.OK)
	d.Write(0, sheet("a"))
	d.Write(1, sheet("b"))
	d.Write(0, sheet("c"))
	want(t, "ahead of Sync", lasting(d, 3), ".... .... ....")
	d.Sync()
	want(t, "behind Sync", lasting(d, 3), "cccc bbbb ....")
	d.Write(1, sheet("d"))
	d.Write(2, sheet("e"))
	want(t, "written behind Sync", lasting(d, 3), "cccc bbbb ....")
	d.Sync()
	d.Sync()
	want(t, "synced twice", lasting(d, 3), "cccc dddd eeee")
}

// P7.1: the order of the errors: no power, then arguments, then faults; what is refused is no operation.
func TestOrderOfErrors(t *testing.T) {
	all := func(d *Disk) string {
		_, below := d.Read(-1)
		_, behind := d.Read(4)
		return told(below, behind, d.Write(4, sheet("x")), d.Write(-1, ""), d.Write(0, ""))
	}
	d := dark()
	want(t, "wrong arguments without power", all(d)+" "+read(d, 0)+" "+told(d.Write(0, sheet("x")), d.Sync()), "15 15 15 15 15 15 15 15")
	d = some()
	d.Arm(0)
	want(t, "wrong arguments ahead of the power's going", all(d), "1 1 1 1 1")
	want(t, "On", d.On(), true)
	want(t, "what goes as far as the device", read(d, 0), "15")
	want(t, "On", d.On(), false)
	want(t, "wrong arguments behind it", all(d), "15 15 15 15 15")
	d = some()
	d.Fail(1)
	want(t, "wrong arguments ahead of a fault", all(d), "1 1 1 1 1")
	want(t, "the fault", read(d, 0)+" "+read(d, 0), "14 ....")
	d = some()
	d.Arm(0)
	d.Fail(1)
	want(t, "power and a fault at once", read(d, 0), "15")
	want(t, "On", d.On(), false)
	d = New(0)
	d.Fail(1)
	want(t, "no pages and a fault", read(d, 0)+" "+told(d.Write(0, sheet("x")), d.Sync(), d.Sync()), "1 1 14 0")
}

// P7.1: Limit to fewer, to more, and back; what stands beyond is kept, whether it lasts or not.
func TestLimit(t *testing.T) {
	for _, n := range numbers() {
		d := some()
		d.Limit(n)
		want(t, fmt.Sprintf("Limit(%d)", n), d.Pages(), min(max(n, 0), 65536))
		want(t, "what stands", seen(d, 4), ".... aaaa cdef gggg")
	}
	d := some()
	d.Limit(2)
	want(t, "fewer", d.Pages(), 2)
	want(t, "beyond", read(d, 2)+" "+read(d, 3)+" "+told(d.Write(2, sheet("x")), d.Write(3, sheet("x"))), "1 1 1 1")
	want(t, "below", read(d, 0)+" "+read(d, 1)+" "+told(d.Write(1, sheet("h"))), ".... aaaa 0")
	d.Limit(4)
	want(t, "back", read(d, 1)+" "+read(d, 2)+" "+read(d, 3), "hhhh cdef gggg")
	d.Limit(100)
	want(t, "more", read(d, 3)+" "+read(d, 4)+" "+read(d, 99)+" "+read(d, 100)+" "+told(d.Write(99, sheet("x"))), "gggg .... .... 1 0")
	d.Limit(0)
	want(t, "none", told(d.Write(0, sheet("x")), d.Sync()), "1 0")
	d.Limit(3)
	d.Limit(100)
	want(t, "synced while beyond", lasting(d, 4), ".... hhhh cdef gggg")
	want(t, "the last", read(d, 99), "xxxx")
}

// P7.1 and P7.2: a crash keeps and loses of pages beyond the limit as of others; Limit needs no power.
func TestLimitAndCrash(t *testing.T) {
	d := some()
	d.Limit(1)
	d.Crash(0, 1, 0, 1, 1, 0, 0, 1)
	want(t, "pages", d.Pages(), 1)
	want(t, "what stands", seen(d, 4), ".... aaaa .d.f gbbg")
	d = dark()
	d.Limit(2)
	want(t, "pages without power", d.Pages(), 2)
	d.Crash(1, 1, 1, 1)
	want(t, "pages behind a crash", d.Pages(), 2)
	want(t, "what stands", seen(d, 4), ".... aaaa cdef bbbb")
}

// P7.1: Used, of writes that last, that don't, that are refused or fail, and of pages beyond the limit.
func TestUsed(t *testing.T) {
	d := New(10)
	want(t, "no writes", d.Used(), 0)
	d.Read(9)
	d.Sync()
	want(t, "reads", d.Used(), 0)
	d.Write(10, sheet("x"))
	d.Write(9, "x")
	d.Fail(1)
	d.Write(9, sheet("x"))
	want(t, "refused and failed", d.Used(), 0)
	d.Write(0, sheet("x"))
	want(t, "page 0", d.Used(), 1)
	d.Write(5, sheet("x"))
	d.Write(2, sheet("x"))
	want(t, "writes that do not last", d.Used(), 6)
	d.Sync()
	want(t, "writes that last", d.Used(), 6)
	d.Write(8, sheet("."))
	want(t, "a page of zeros", d.Used(), 9)
	d.Limit(3)
	want(t, "beyond the limit", d.Used(), 9)
	d.Limit(0)
	want(t, "no pages", d.Used(), 9)
	d.Arm(0)
	d.Sync()
	want(t, "without power", d.Used(), 9)
	d.Crash()
	want(t, "behind a crash", d.Used(), 6)
	d = New(api.MaxPages)
	d.Write(api.MaxPages-1, sheet("x"))
	want(t, "the last page of all", d.Used(), 65536)
}

// P7.1 and P7.2: behind a crash those pages were written that had been when it lasted, or of which it kept a sector, of zeros too.
func TestUsedBehindCrash(t *testing.T) {
	loose := func() *Disk {
		d := New(10)
		d.Write(2, sheet("x"))
		d.Sync()
		d.Write(5, sheet("x"))
		d.Write(7, sheet("."))
		d.Write(5, sheet("y"))
		return d
	}
	for _, c := range []struct {
		picks []int
		used  int
	}{
		{nil, 3}, {[]int{0, 0, 0, 0, 0, 0, 0, 0, 0, 0, 0, 0}, 3}, {[]int{0, 1}, 6}, {[]int{0, 0, 0, 0, 0, 0, 0, 1}, 8},
		{[]int{0, 0, 0, 0, 0, 0, 0, 0, 0, 0, 0, 1}, 6}, {[]int{1, 1, 1, 1, 1, 1, 1, 1}, 8},
	} {
		d := loose()
		d.Crash(c.picks...)
		want(t, fmt.Sprintf("Used behind Crash(%v)", c.picks), d.Used(), c.used)
		d.Crash(1, 1, 1, 1)
		want(t, "Used behind one more", d.Used(), c.used)
	}
}

// P7.1: Ops counts operations that told OK, and nothing else; it goes on behind a crash.
func TestOps(t *testing.T) {
	d := New(2)
	d.Pages()
	d.Limit(2)
	d.Used()
	d.On()
	d.Arm(100)
	d.Fail(100)
	d.Clear()
	d.Crash()
	d.Copy().Sync()
	want(t, "no operations", d.Ops(), 0)
	d.Read(0)
	want(t, "Read", d.Ops(), 1)
	d.Write(0, sheet("x"))
	want(t, "Write", d.Ops(), 2)
	d.Sync()
	want(t, "Sync", d.Ops(), 3)
	d.Read(2)
	d.Read(-1)
	d.Write(2, sheet("x"))
	d.Write(0, "")
	want(t, "refused", d.Ops(), 3)
	d.Fail(1, 2, 3)
	d.Read(0)
	d.Write(0, sheet("x"))
	d.Sync()
	want(t, "failed", d.Ops(), 3)
	d.Arm(1)
	d.Sync()
	want(t, "the last ahead of the power's going", d.Ops(), 4)
	d.Sync()
	d.Read(0)
	d.Write(0, sheet("x"))
	want(t, "without power", d.Ops(), 4)
	d.Crash(1, 1, 1)
	want(t, "behind a crash", d.Ops(), 4)
	d.Read(0)
	want(t, "behind a crash, and a Read", d.Ops(), 5)
}

// P7.2: which sectors a crash keeps of one write, by all even and odd picks, whatever their numbers are.
func TestCrashPicks(t *testing.T) {
	odd, even := []int{1, 3, -1, math.MaxInt, math.MinInt + 1, -3}, []int{0, 2, -2, math.MinInt, math.MaxInt - 1, -4}
	for bits := range 16 {
		for shift := range odd {
			picks, kept := []int{}, ""
			for i := range 4 {
				if bits>>i&1 == 1 {
					picks, kept = append(picks, odd[(i+shift)%len(odd)]), kept+"abcd"[i:i+1]
				} else {
					picks, kept = append(picks, even[(i+shift)%len(even)]), kept+"x"
				}
			}
			d := New(2)
			d.Write(1, sheet("x"))
			d.Sync()
			d.Write(1, sheet("abcd"))
			d.Crash(picks...)
			want(t, fmt.Sprintf("Crash(%v)", picks), read(d, 1), kept)
			want(t, "the page beside it", read(d, 0), "....")
		}
	}
}

// P7.2: no picks, fewer and more than there are sectors, of no writes, of writes of several pages and of one page that was written twice.
func TestCrash(t *testing.T) {
	ones := slices.Repeat([]int{1}, 100)
	for _, c := range []struct {
		picks []int
		kept  string
	}{
		{nil, ".... aaaa .... bbbb"},
		{[]int{}, ".... aaaa .... bbbb"},
		{[]int{0}, ".... aaaa .... bbbb"},
		{[]int{1}, ".... aaaa c... bbbb"},
		{[]int{0, 1}, ".... aaaa .d.. bbbb"},
		{[]int{0, 0, 1, 1}, ".... aaaa ..ef bbbb"},
		{[]int{1, 1, 1, 1}, ".... aaaa cdef bbbb"},
		{[]int{0, 0, 0, 0, 1}, ".... aaaa .... gbbb"},
		{[]int{0, 0, 0, 0, 0, 1, 1}, ".... aaaa .... bggb"},
		{[]int{1, 0, 1, 0, 0, 1, 0, 1}, ".... aaaa c.e. bgbg"},
		{[]int{0, 0, 0, 0, 0, 0, 0, 0, 1, 1, 1, 1}, ".... aaaa .... bbbb"},
		{ones[:8], ".... aaaa cdef gggg"},
		{ones, ".... aaaa cdef gggg"},
	} {
		d := some()
		d.Crash(c.picks...)
		want(t, fmt.Sprintf("Crash(%v)", c.picks), seen(d, 4), c.kept)
		d.Crash(ones...)
		want(t, "once more, of no writes", seen(d, 4), c.kept)
	}
	d := New(2)
	d.Crash(ones...)
	want(t, "of a new device", seen(d, 2), ".... ....")
}

// P7.2: writes of one page are kept one behind the other, each by its own picks.
func TestCrashOfTwoWrites(t *testing.T) {
	for _, c := range []struct {
		picks []int
		kept  string
	}{
		{[]int{1, 0, 0, 1, 0, 3}, "yzxy"},
		{[]int{1, 1, 1, 1, 0, 0, 0, 0}, "yyyy"},
		{[]int{0, 0, 0, 0, 1, 1, 1, 1}, "zzzz"},
		{[]int{1, 1, 1, 1, 1, 1, 1, 1}, "zzzz"},
		{[]int{1, 1, 0, 0, 0, 1, 1, 0}, "yzzx"},
		{[]int{1, 1}, "yyxx"},
	} {
		d := New(1)
		d.Write(0, sheet("x"))
		d.Sync()
		d.Write(0, sheet("y"))
		d.Write(0, sheet("z"))
		d.Crash(c.picks...)
		want(t, fmt.Sprintf("Crash(%v)", c.picks), read(d, 0), c.kept)
	}
	d := New(2)
	d.Write(1, sheet("a"))
	d.Write(0, sheet("b"))
	d.Write(1, sheet("a"))
	d.Write(1, sheet("c"))
	d.Crash(0, 0, 1, 0, 0, 0, 0, 1, 1, 1, 0, 0, 1)
	want(t, "with another page between", seen(d, 2), "...b caa.")
	d.Write(1, sheet("d"))
	d.Read(1)
	d.Sync()
	d.Write(1, sheet("e"))
	d.Crash(0, 0, 1, 1)
	want(t, "no picks are for reads, nor for writes that last", seen(d, 2), "...b ddee")
}

// P7.2: what a crash kept lasts behind the next one, and is what later writes are torn over.
func TestCrashAgain(t *testing.T) {
	d := some()
	d.Crash(1, 0, 0, 1, 0, 1)
	want(t, "the first crash", seen(d, 4), ".... aaaa c..f bgbb")
	d.Crash()
	want(t, "one more", seen(d, 4), ".... aaaa c..f bgbb")
	d.Write(2, sheet("h"))
	d.Write(3, sheet("i"))
	want(t, "written", seen(d, 4), ".... aaaa hhhh iiii")
	d.Crash(0, 1, 0, 0, 0, 0, 1)
	want(t, "torn", seen(d, 4), ".... aaaa ch.f bgib")
	d.Sync()
	d.Crash()
	want(t, "synced", seen(d, 4), ".... aaaa ch.f bgib")
}

// P7.2: a crash gives power back, and takes all faults away, also those that have not come yet.
func TestCrashEndsFaults(t *testing.T) {
	d := dark()
	d.Crash()
	want(t, "On", d.On(), true)
	want(t, "operations", read(d, 1)+" "+told(d.Write(1, sheet("x")), d.Sync()), "aaaa 0 0")
	d = some()
	d.Arm(1)
	d.Fail(1, 2, 3)
	d.Crash()
	want(t, "operations behind faults", told(d.Sync(), d.Sync(), d.Sync(), d.Sync()), "0 0 0 0")
	d = dark()
	d.Arm(0)
	d.Fail(1)
	d.Crash()
	want(t, "faults that were said without power", told(d.Sync(), d.Sync()), "0 0")
}

// P7.3: Arm below 0, of 0, and more; each kind of operation counts, what is refused does not.
func TestArm(t *testing.T) {
	for _, ops := range []int{math.MinInt, -2, -1, 0} {
		d := some()
		d.Arm(ops)
		want(t, "On ahead of the operation", d.On(), true)
		want(t, fmt.Sprintf("Arm(%d)", ops), told(d.Sync(), d.Sync()), "15 15")
		want(t, "On", d.On(), false)
	}
	for ops := range 8 {
		d := New(2)
		d.Arm(ops)
		got := ""
		for i := range 8 {
			want(t, "On", d.On(), i <= ops)
			d.Read(-1)
			d.Write(0, "x")
			got += told([]func() api.Errno{d.Sync, func() api.Errno { return d.Write(1, sheet("x")) }, func() api.Errno { _, e := d.Read(1); return e }}[i%3]()) + " "
		}
		want(t, fmt.Sprintf("Arm(%d)", ops), got, strings.Repeat("0 ", ops)+strings.Repeat("15 ", 8-ops))
		want(t, "Ops", d.Ops(), ops)
	}
	d := some()
	d.Arm(math.MaxInt)
	want(t, "Arm of very many", told(d.Sync(), d.Sync(), d.Sync()), "0 0 0")
}

// P7.3: with the power what an operation would have done is gone, and nothing else.
func TestPowerGone(t *testing.T) {
	for what, op := range map[string]func(d *Disk) api.Errno{
		"Read":  func(d *Disk) api.Errno { _, e := d.Read(1); return e },
		"Write": func(d *Disk) api.Errno { return d.Write(1, sheet("x")) },
		"Sync":  func(d *Disk) api.Errno { return d.Sync() },
	} {
		d := some()
		d.Arm(0)
		want(t, what, told(op(d), op(d)), "15 15")
		c := d.Copy()
		c.Crash()
		want(t, what+", and all is lost", seen(c, 4), ".... aaaa .... bbbb")
		d.Crash(slices.Repeat([]int{1}, 100)...)
		want(t, what+", and all is kept", seen(d, 4), ".... aaaa cdef gggg")
	}
	text, e := dark().Read(1)
	want(t, "what is read without power", text+told(e), "15")
}

// P7.3: each Arm is instead of the one before, and leaves Fail as it is.
func TestArmTwice(t *testing.T) {
	d := New(2)
	d.Arm(1)
	d.Arm(3)
	want(t, "to more", told(d.Sync(), d.Sync(), d.Sync(), d.Sync()), "0 0 0 15")
	d.Arm(5)
	want(t, "without power", d.On(), false)
	want(t, "without power", d.Sync(), api.ErrPower)
	d = New(2)
	d.Arm(3)
	d.Sync()
	d.Arm(1)
	want(t, "to fewer", told(d.Sync(), d.Sync()), "0 15")
	d = New(2)
	d.Fail(2)
	d.Arm(2)
	want(t, "with Fail ahead", told(d.Sync(), d.Sync(), d.Sync()), "0 14 15")
	d = New(2)
	d.Arm(2)
	d.Fail(2)
	want(t, "with Fail behind", told(d.Sync(), d.Sync(), d.Sync()), "0 14 15")
	d = New(2)
	d.Fail(3)
	d.Sync()
	d.Arm(5)
	want(t, "it does not count anew for Fail", told(d.Sync(), d.Sync(), d.Sync()), "0 14 0")
	d = New(2)
	d.Arm(3)
	d.Sync()
	d.Fail(1)
	want(t, "nor does Fail for it", told(d.Sync(), d.Sync(), d.Sync()), "14 0 15")
}

// P7.3: Fail of several numbers in any order, of one twice, of 0 and below, of none; each kind of operation counts, what is refused does not.
func TestFail(t *testing.T) {
	for _, c := range []struct {
		fails []int
		told  string
	}{
		{nil, "0 0 0 0 0 0"},
		{[]int{}, "0 0 0 0 0 0"},
		{[]int{1}, "14 0 0 0 0 0"},
		{[]int{6}, "0 0 0 0 0 14"},
		{[]int{7}, "0 0 0 0 0 0"},
		{[]int{0}, "0 0 0 0 0 0"},
		{[]int{-1, -6, math.MinInt}, "0 0 0 0 0 0"},
		{[]int{math.MaxInt}, "0 0 0 0 0 0"},
		{[]int{2, 3}, "0 14 14 0 0 0"},
		{[]int{5, 1, 3}, "14 0 14 0 14 0"},
		{[]int{4, 4, 4}, "0 0 0 14 0 0"},
		{[]int{2, 0, 2, -2, 6}, "0 14 0 0 0 14"},
		{[]int{1, 2, 3, 4, 5, 6}, "14 14 14 14 14 14"},
	} {
		d := New(2)
		d.Fail(c.fails...)
		var l []api.Errno
		for range 2 {
			_, e := d.Read(1)
			d.Read(2)
			l = append(l, e, d.Write(1, sheet("x")))
			d.Write(1, "x")
			l = append(l, d.Sync())
		}
		want(t, fmt.Sprintf("Fail(%v)", c.fails), told(l...), c.told)
		want(t, "On", d.On(), true)
		want(t, "Ops", d.Ops(), strings.Count(" "+c.told, " 0"))
	}
}

// P7.3: an operation that fails does nothing.
func TestFailDoesNothing(t *testing.T) {
	d := some()
	d.Fail(1, 2, 3)
	text, e := d.Read(1)
	want(t, "Read", text+told(e), "14")
	want(t, "Write", d.Write(1, sheet("x")), api.ErrDisk)
	want(t, "Sync", d.Sync(), api.ErrDisk)
	want(t, "what stands", seen(d, 4), ".... aaaa cdef gggg")
	want(t, "what lasts", lasting(d, 4), ".... aaaa .... bbbb")
	d.Crash(slices.Repeat([]int{1}, 100)...)
	want(t, "what is kept", seen(d, 4), ".... aaaa cdef gggg")
}

// P7.3: each Fail is instead of the one before, and counts from its own call on.
func TestFailTwice(t *testing.T) {
	d := New(2)
	d.Fail(1, 2)
	d.Fail(3)
	want(t, "instead", told(d.Sync(), d.Sync(), d.Sync(), d.Sync()), "0 0 14 0")
	d.Fail(4)
	d.Sync()
	d.Fail(2)
	want(t, "counted anew", told(d.Sync(), d.Sync(), d.Sync(), d.Sync()), "0 14 0 0")
	d.Fail(1, 2)
	d.Sync()
	d.Fail()
	want(t, "of none", told(d.Sync(), d.Sync()), "0 0")
}

// P7.3: an operation that fails counts for Arm, and for the numbers of Fail.
func TestFailCountsForArm(t *testing.T) {
	d := New(2)
	d.Arm(3)
	d.Fail(1, 2)
	want(t, "two that fail", told(d.Sync(), d.Sync(), d.Sync(), d.Sync()), "14 14 0 15")
	d = New(2)
	d.Fail(1, 3)
	d.Arm(2)
	want(t, "Arm is asked first", told(d.Sync(), d.Sync(), d.Sync(), d.Sync()), "14 0 15 15")
	want(t, "Ops", d.Ops(), 1)
}

// P7.3: Clear takes both faults away, those that have not come yet too; power that is gone stays so.
func TestClear(t *testing.T) {
	d := some()
	d.Arm(1)
	d.Fail(1, 2)
	d.Clear()
	want(t, "with power", told(d.Sync(), d.Sync(), d.Sync()), "0 0 0")
	d.Clear()
	want(t, "of no fault", told(d.Sync()), "0")
	d.Arm(0)
	d.Clear()
	want(t, "of 0", told(d.Sync(), d.Sync()), "0 0")
	d = dark()
	d.Clear()
	want(t, "without power", d.On(), false)
	want(t, "without power", read(d, 1)+" "+told(d.Write(1, sheet("x")), d.Sync()), "15 15 15")
	d.Crash(1)
	want(t, "behind a crash", seen(d, 4), ".... aaaa c... bbbb")
	d = some()
	d.Clear()
	want(t, "writes that do not last stay so", lasting(d, 4), ".... aaaa .... bbbb")
	d.Arm(1)
	d.Fail(2)
	d.Clear()
	d.Fail(2)
	want(t, "a fault behind it", told(d.Sync(), d.Sync(), d.Sync()), "0 14 0")
}

// all is whatever a device tells, of pages and of what becomes of the next operations.
func all(d *Disk, pages int) string {
	text := fmt.Sprint(d.Pages(), d.Used(), d.Ops(), d.On())
	for n := range pages {
		text += " " + read(d, n)
	}
	return text
}

// P7.2: a copy stands as the device does: pages, writes that do not last, faults, power, operations so far.
func TestCopy(t *testing.T) {
	d := some()
	d.Limit(3)
	c := d.Copy()
	want(t, "a copy", all(c, 4), "3 4 5 true .... aaaa cdef 1")
	want(t, "the device", all(d, 4), "3 4 5 true .... aaaa cdef 1")
	d = dark()
	c = d.Copy()
	want(t, "without power", all(c, 2), "4 4 5 false 15 15")
	c.Crash(1, 0, 0, 0, 0, 0, 0, 1)
	want(t, "its own crash", all(c, 4), "4 4 5 true .... aaaa c... bbbg")
	want(t, "the device is still without power", all(d, 1), "4 4 5 false 15")
	d.Crash()
	want(t, "the device's own crash", all(d, 4), "4 4 5 true .... aaaa .... bbbb")
	d = some()
	d.Arm(3)
	d.Fail(2)
	d.Sync()
	c = d.Copy()
	want(t, "the faults of a copy", told(c.Sync(), c.Sync(), c.Sync()), "14 0 15")
	want(t, "the faults of the device", told(d.Sync(), d.Sync(), d.Sync()), "14 0 15")
}

// P7.2: behind the copy each device goes its own way, in all that can be said to it.
func TestCopyGoesItsOwnWay(t *testing.T) {
	for what, change := range map[string]func(d *Disk){
		"Write":         func(d *Disk) { d.Write(0, sheet("x")); d.Write(1, sheet("y")); d.Write(2, sheet("z")) },
		"Sync":          func(d *Disk) { d.Sync() },
		"Sync, Write":   func(d *Disk) { d.Sync(); d.Write(0, sheet("x")); d.Write(1, sheet("y")); d.Write(2, sheet("z")) },
		"Limit":         func(d *Disk) { d.Limit(1) },
		"Arm":           func(d *Disk) { d.Arm(0) },
		"Arm, Sync":     func(d *Disk) { d.Arm(0); d.Sync() },
		"Fail":          func(d *Disk) { d.Fail(1, 2, 3) },
		"Clear":         func(d *Disk) { d.Clear() },
		"Crash":         func(d *Disk) { d.Crash() },
		"Crash of some": func(d *Disk) { d.Crash(1, 0, 1) },
		"Crash, Write":  func(d *Disk) { d.Crash(1); d.Write(0, sheet("x")); d.Write(2, sheet("y")); d.Write(3, sheet("z")) },
		"Read":          func(d *Disk) { d.Read(0); d.Read(1); d.Read(2) },
	} {
		start := func() *Disk {
			d := some()
			d.Arm(20)
			d.Fail(9)
			return d
		}
		// A device that is left alone tells how one stands whose copy was changed.
		for place := range 2 {
			pair := [2]*Disk{start()}
			pair[1] = pair[0].Copy()
			change(pair[place])
			other, left := pair[1-place], start()
			for range 2 {
				want(t, what, lasting(other, 4)+all(other, 4), lasting(left, 4)+all(left, 4))
			}
			want(t, what, told(other.Sync(), other.Sync())+seen(other, 4), told(left.Sync(), left.Sync())+seen(left, 4))
		}
	}
}

// P7.2: writes behind a copy don't get into each other's, however many copies there are and however many writes there were.
func TestCopyOfWrites(t *testing.T) {
	for count := range 20 {
		d := New(2)
		for range count {
			d.Write(0, sheet("w"))
		}
		c := d.Copy()
		e := c.Copy()
		d.Write(1, sheet("d"))
		c.Write(1, sheet("c"))
		e.Write(1, sheet("e"))
		f := d.Copy()
		f.Write(1, sheet("f"))
		d.Write(1, sheet("g"))
		ones := append(slices.Repeat([]int{0}, 4*count), 1, 1, 1, 1, 0, 1)
		for _, p := range []struct {
			d    *Disk
			kept string
		}{{d, "dgdd"}, {c, "cccc"}, {e, "eeee"}, {f, "dfdd"}} {
			p.d.Crash(ones...)
			want(t, fmt.Sprintf("%d writes ahead of the copies", count), seen(p.d, 2), ".... "+p.kept)
		}
	}
}

// R1: a nil device has no power, no pages, and takes everything.
func TestNil(t *testing.T) {
	var d *Disk
	for range 2 {
		for _, n := range numbers() {
			text, e := d.Read(n)
			want(t, "Read", text+told(e, d.Write(n, sheet("x")), d.Write(n, "")), "15 15 15")
			d.Limit(n)
			d.Arm(n)
			d.Fail(n, n)
			d.Crash(n, n)
		}
		want(t, "Sync", d.Sync(), api.ErrPower)
		want(t, "all", fmt.Sprint(d.Pages(), d.Used(), d.Ops(), d.On(), d.Copy() == nil), "0 0 0 false true")
		d.Fail()
		d.Clear()
		d.Crash()
	}
}

// A zero device is New(0).
func TestZero(t *testing.T) {
	for place := range 2 {
		zero := func() *Disk { return []*Disk{{}, New(0)}[place] }
		want(t, "all", all(zero(), 2), "0 0 0 true 1 1")
		d := zero()
		want(t, "operations", told(d.Write(0, sheet("x")), d.Write(-1, sheet("x")), d.Write(0, ""), d.Sync()), "1 1 1 0")
		d.Crash(1, 1)
		d.Clear()
		c := d.Copy()
		c.Limit(2)
		want(t, "a copy", all(c, 3), "2 0 1 true .... .... 1")
		want(t, "a copy, written", told(c.Write(1, sheet("x")), c.Sync())+" "+all(c, 2), "0 0 2 2 5 true .... xxxx")
		want(t, "behind its copy", all(d, 2), "0 0 1 true 1 1")
		d = zero()
		d.Limit(2)
		want(t, "written", told(d.Write(1, sheet("x")))+" "+all(d, 2), "0 2 2 1 true .... xxxx")
		d.Crash(1)
		want(t, "behind a crash", all(d, 2), "2 2 3 true .... x...")
		d = zero()
		d.Arm(1)
		d.Fail(1)
		want(t, "faults", told(d.Sync(), d.Sync()), "14 15")
		want(t, "On", d.On(), false)
	}
}

// R3: picks and faults that are handed in stay as they are, and may be changed by their owner.
func TestMemory(t *testing.T) {
	fails := []int{2, 1, 2}
	d := some()
	d.Fail(fails...)
	want(t, "Fail's numbers", fmt.Sprint(fails), "[2 1 2]")
	clear(fails)
	want(t, "behind a change of Fail's numbers", told(d.Sync(), d.Sync(), d.Sync()), "14 14 0")
	picks := []int{1, 0, 3, 0, -1}
	d = some()
	d.Crash(picks...)
	want(t, "Crash's picks", fmt.Sprint(picks), "[1 0 3 0 -1]")
	clear(picks)
	want(t, "behind a change of Crash's picks", seen(d, 4), ".... aaaa c.e. gbbb")
}

// R5: all pages, many writes of one page, many picks and many faults.
func TestMany(t *testing.T) {
	d := New(api.MaxPages)
	for n := range api.MaxPages {
		if e := d.Write(n, sheet(string(rune('a'+n%26)))); e != api.OK {
			t.Fatalf("Write of page %d: error %d", n, e)
		}
	}
	want(t, "Used", d.Used(), api.MaxPages)
	c := d.Copy()
	c.Sync()
	want(t, "what lasts", lasting(c, 3), "aaaa bbbb cccc")
	picks := slices.Repeat([]int{0, 1, 0, 0}, api.MaxPages+1000)
	d.Crash(picks...)
	want(t, "what is kept", read(d, 0)+read(d, 65535), ".a...p..")
	for i := range 100000 {
		d.Write(5, sheet("xy")[:512]+sheet("zw")[:512])
		if i == 50000 {
			d.Write(5, sheet("v"))
		}
	}
	want(t, "many writes", d.Write(5, sheet("u")), api.OK)
	d.Crash(append(slices.Repeat([]int{0}, 4*50001), 1)...)
	want(t, "many writes, one of them kept", read(d, 5), "vf..")
	fails := make([]int, 100000)
	for i := range fails {
		fails[i] = 2 * (len(fails) - i)
	}
	d.Fail(fails...)
	want(t, "many faults", told(d.Sync(), d.Sync(), d.Sync(), d.Sync()), "0 14 0 14")
}

// pair is a device, and what the rules say of it.
type pair struct {
	d *Disk
	r ruleDisk
}

// step says one thing to both, by numbers that are drawn, and holds what they tell against each other.
func (p *pair) step(t *testing.T, draw func(int) int) {
	t.Helper()
	list := func() []int {
		l := make([]int, draw(24))
		for i := range l {
			l[i] = draw(9) - 3
		}
		return l
	}
	switch draw(20) {
	case 0, 1, 2, 3:
		n := draw(8) - 1
		text, e := p.d.Read(n)
		ruled, must := p.r.read(n)
		want(t, "Read's error", e, must)
		want(t, "Read", text, ruled)
	case 4, 5, 6, 7, 8, 9:
		n, size := draw(8)-1, 1024
		if draw(10) == 0 {
			size = draw(1100)
		}
		data := strings.Repeat(sheet(string([]byte{'a' + byte(draw(26)), 'A' + byte(draw(26)), '.', '0' + byte(draw(10))})), 2)[:size]
		want(t, "Write", p.d.Write(n, data), p.r.write(n, data))
	case 10, 11:
		want(t, "Sync", p.d.Sync(), p.r.sync())
	case 12:
		n := draw(10) - 1
		p.d.Limit(n)
		p.r.limit(n)
	case 13:
		n := draw(10) - 1
		p.d.Arm(n)
		p.r.armWith(n)
	case 14, 15:
		l := list()
		p.d.Fail(l...)
		p.r.failAt(l...)
	case 16:
		p.d.Clear()
		p.r.clear()
	case 17, 18:
		l := list()
		p.d.Crash(l...)
		p.r.crash(l...)
	}
	p.hold(t)
}

// hold asks the device all that can be asked without an operation, and a copy of it what stands on its pages.
func (p *pair) hold(t *testing.T) {
	t.Helper()
	want(t, "Pages", p.d.Pages(), p.r.pages)
	want(t, "Used", p.d.Used(), p.r.used())
	want(t, "Ops", p.d.Ops(), p.r.done)
	want(t, "On", p.d.On(), !p.r.dark)
	if p.r.dark {
		return
	}
	c := p.d.Copy()
	c.Clear()
	c.Limit(8)
	for n := range 8 {
		text, e := c.Read(n)
		want(t, "a copy's error", e, api.OK)
		want(t, "a copy's page", text, p.r.text(n))
	}
}

// wantRuled says many things to devices and copies of them, and holds each against the rules.
func wantRuled(t *testing.T, steps int, draw func(int) int) {
	t.Helper()
	first := draw(8)
	all := []pair{{New(first), ruleNew(first)}}
	for range steps {
		at := draw(len(all))
		all[at].step(t, draw)
		if draw(12) == 0 {
			c := pair{all[at].d.Copy(), all[at].r.copied()}
			all[draw(len(all))] = c
			if len(all) < 4 {
				all = append(all, pair{c.d.Copy(), c.r.copied()})
			}
		}
		if t.Failed() {
			return
		}
	}
	for i := range all {
		all[i].hold(t)
	}
}

// P7.1 to P7.3: things said in any order, to devices and their copies.
func TestRules(t *testing.T) {
	for seed := range int64(400) {
		wantRuled(t, 150, rand.New(rand.NewSource(seed)).Intn)
		if t.Failed() {
			t.Fatalf("seed %d", seed)
		}
	}
}

// P7.4: behind each crash each sector has one of the texts that it had since it lasted last; what lasts is there.
func TestWhatFollows(t *testing.T) {
	for seed := range int64(300) {
		draw := rand.New(rand.NewSource(seed)).Intn
		d := New(5)
		could := map[[2]int][]string{} // by page and sector: what it may have, should there be a crash
		for n := range 20 {
			could[[2]int{n / 4, n % 4}] = []string{strings.Repeat("\x00", 256)}
		}
		for range 60 {
			switch n := draw(5); draw(12) {
			case 0:
				d.Sync()
				for place, texts := range could {
					could[place] = texts[len(texts)-1:]
				}
			case 1:
				picks := make([]int, draw(60))
				for i := range picks {
					picks[i] = draw(2)
				}
				d.Arm(0)
				d.Sync()
				d.Crash(picks...)
				wantOneOf(t, d, could)
			default:
				data := sheet(string([]byte{'a' + byte(draw(26)), 'a' + byte(draw(26)), 'a' + byte(draw(26)), 'a' + byte(draw(26))}))
				d.Write(n, data)
				for s := range 4 {
					could[[2]int{n, s}] = append(could[[2]int{n, s}], data[s*256:s*256+256])
				}
			}
		}
	}
}

// wantOneOf holds the sectors of a device against what they may have; what they have lasts from then on.
func wantOneOf(t *testing.T, d *Disk, could map[[2]int][]string) {
	t.Helper()
	for place, texts := range could {
		page, e := d.Read(place[0])
		if e != api.OK {
			t.Fatalf("Read of page %d: error %d", place[0], e)
		}
		text := page[place[1]*256 : place[1]*256+256]
		if !slices.Contains(texts, text) {
			t.Errorf("sector %d of page %d: %q, none of %d texts that it had", place[1], place[0], text[:1], len(texts))
		}
		could[place] = []string{text}
	}
}

// R4: the same calls have the same answers.
func TestSameAgain(t *testing.T) {
	once := func() string {
		draw := rand.New(rand.NewSource(1)).Intn
		text := ""
		d := New(6)
		for range 500 {
			switch draw(6) {
			case 0:
				d.Crash(draw(2), draw(2), draw(2), draw(2), draw(2), draw(2))
			case 1:
				d.Fail(draw(4), draw(4))
			case 2:
				text += told(d.Sync())
			default:
				text += told(d.Write(draw(7), sheet(string(rune('a'+draw(26))))))
			}
			text += all(d.Copy(), 6)
		}
		return text
	}
	want(t, "the same calls", once(), once())
}

// P1: each call ends at any numbers, and tells what the rules tell.
func FuzzDisk(f *testing.F) {
	f.Add([]byte("\x04\x00\x04\x02\x0f\x05\x07\x00\x0a\x11\x08\x01\x01\x01"))
	f.Add([]byte(strings.Repeat("\x05\x03\x02\x01\x12\x0a\x0d\x0e", 20)))
	f.Fuzz(func(t *testing.T, script []byte) {
		draw := func(n int) int {
			if len(script) == 0 {
				return 0
			}
			b := int(script[0])
			script = script[1:]
			return b % n
		}
		wantRuled(t, min(len(script), 200), draw)
	})
}
