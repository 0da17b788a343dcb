package mask

import (
	"fmt"
	"math/rand"
	"strings"
	"testing"

	"loess/api"
)

// P15.3: records written down by hand.
func TestRecordKnown(t *testing.T) {
	for _, c := range []struct {
		b      api.Branch
		digits string
	}{
		{api.Branch{State: 0x0003}, "0003 0000 0000"},
		{api.Branch{State: 0x0003, Hashes: [][32]byte{}}, "0003 0000 0000"},
		{api.Branch{State: 0x1234, Tree: 0x0214}, "1234 0214 0000"},
		{api.Branch{State: 0xffff, Tree: 0xfedc}, "ffff fedc 0000"},
		{api.Branch{State: 0x8006, Tree: 0x0002, Hash: 0x8000, Hashes: sums(1)}, "8006 0002 8000" + hexOf(1)},
		{api.Branch{State: 0x8006, Tree: 0x0002, Hash: 0x8002, Hashes: sums(1, 2)}, "8006 0002 8002" + hexOf(1) + hexOf(2)},
		{api.Branch{State: 0x8006, Tree: 0x0002, Hash: 0x8002, Hashes: sums(2, 1)}, "8006 0002 8002" + hexOf(2) + hexOf(1)},
		{api.Branch{State: 0x0101, Hash: 0x0101, Hashes: sums(3, 3)}, "0101 0000 0101" + hexOf(3) + hexOf(3)},
		{api.Branch{State: 0x0101, Hash: 0x0100, Hashes: [][32]byte{{}}}, "0101 0000 0100" + strings.Repeat("00", 32)},
		{api.Branch{State: 0xffff, Tree: 0x00ff, Hash: 0xffff, Hashes: numbered(16)}, "ffff 00ff ffff" +
			hexOf(100) + hexOf(101) + hexOf(102) + hexOf(103) + hexOf(104) + hexOf(105) + hexOf(106) + hexOf(107) +
			hexOf(108) + hexOf(109) + hexOf(110) + hexOf(111) + hexOf(112) + hexOf(113) + hexOf(114) + hexOf(115)},
	} {
		record := unhex(t, c.digits)
		want(t, "Record of "+text(c.b), recordText(Record(c.b)), fmt.Sprintf("%x 0", record))
		want(t, "Read of "+c.digits, readText(Read(record)), text(c.b)+" 0")
	}
}

// P15.3: what Check refuses has no record.
func TestNoRecord(t *testing.T) {
	for _, b := range []api.Branch{
		{}, {State: 0x0001}, {State: 0x8000}, {State: 0x0001, Hash: 0x0001, Hashes: sums(1)},
		{State: 0x0003, Tree: 0x0004}, {State: 0x0003, Hash: 0x0004, Hashes: sums(1)}, {State: 0x0003, Tree: 0xffff},
		{State: 0x0003, Hash: 0x0001}, {State: 0x0003, Hash: 0x0003, Hashes: sums(1)}, {State: 0x0003, Hashes: sums(1)}, {State: 0x0003, Hash: 0x0001, Hashes: sums(1, 2)},
	} {
		want(t, "Record of "+text(b), recordText(Record(b)), noRecord)
		want(t, "Read of it", readText(Read(ruleRecord(b))), noBranch)
	}
}

// P15.3, P15.5: each record is read, and cut short anywhere, or with more behind it, it is none.
func TestReadOfEachRecord(t *testing.T) {
	for _, b := range branches() {
		record, e := Record(b)
		want(t, "Record of "+text(b), recordText(record, e), recordText(ruleRecord(b), api.OK))
		want(t, "Read of Record", readText(Read(record)), text(b)+" 0")
		for short := range len(record) {
			want(t, fmt.Sprintf("Read of %d bytes of %x", short, record), readText(Read(record[:short])), noBranch)
		}
		for _, more := range []string{"\x00", "\xff", "\x00\x00", strings.Repeat("\x00", 31), strings.Repeat("\x01", 32), strings.Repeat("\x00", 33), strings.Repeat("\x02", 64), record} {
			want(t, fmt.Sprintf("Read of %x with %x behind", record, more), readText(Read(record+more)), noBranch)
		}
	}
}

// P15.3: each way in which bytes are no record, by itself.
func TestReadOfNone(t *testing.T) {
	for _, digits := range []string{
		"", "00", "0003", "0003 0000", "0003 0000 00",
		"0000 0000 0000", "0001 0000 0000", "8000 0000 0000", "0100 0000 0000", "0001 0001 0000", // fewer than two nibbles
		"0001 0000 0001" + hexOf(1), "8000 8000 8000" + hexOf(1),
		"0003 0004 0000", "0003 0003 0004" + hexOf(1), "0003 8000 0000", "00ff 0100 0000", "ff00 00ff 0000", // beside State
		"0003 0000 0007" + hexOf(1) + hexOf(2) + hexOf(3), "0003 0004 0004" + hexOf(1),
		"0003 0000 0001", "0003 0000 0003" + hexOf(1), "ffff 0000 ffff", // too few hashes
		"0003 0000 0000" + hexOf(1), "0003 0000 0001" + hexOf(1) + hexOf(2), // too many
		"0003 0000 0001" + hexOf(1)[2:], "0003 0000 0001" + hexOf(1) + "00", // a hash that is short or long
	} {
		want(t, "Read of "+digits, readText(Read(unhex(t, digits))), noBranch)
	}
	want(t, "Read of very many bytes", readText(Read(unhex(t, "ffff 0000 ffff")+strings.Repeat("\x07", 1<<20))), noBranch)
}

// P15.3: all masks from some bytes, with up to three hashes and a piece of one behind them, are read as the rules say.
func TestReadOfAll(t *testing.T) {
	some, found := "\x00\x01\x03\x81\xff", 0
	tails := []string{"", refOf(1)[1:], refOf(1)[1:] + refOf(2)[1:], refOf(1)[1:] + refOf(2)[1:] + refOf(3)[1:], refOf(1)[2:], refOf(1), "\x00"}
	for value := range 5 * 5 * 5 * 5 * 5 * 5 {
		var masks []byte
		for range 6 {
			masks, value = append(masks, some[value%5]), value/5
		}
		for _, tail := range tails {
			s := string(masks) + tail
			b, e := ruleRead(s)
			if got, rule := readText(Read(s)), readText(b, e); got != rule {
				t.Fatalf("Read of %x: %s, want %s", s, got, rule)
			}
			if e == api.OK {
				found++
			}
		}
	}
	if found < 1000 {
		t.Errorf("only %d records were among them", found)
	}
}

// P15.5: Read of Record is the branch, of branches by chance; and the record of what was read is the same.
func TestReadOfRecordByChance(t *testing.T) {
	r := rand.New(rand.NewSource(15))
	for range 5000 {
		b := someBranch(r)
		record, e := Record(b)
		if ruleCheck(b) != api.OK {
			want(t, "Record of "+text(b), recordText(record, e), noRecord)
			continue
		}
		want(t, "Record of "+text(b), recordText(record, e), recordText(ruleRecord(b), api.OK))
		read, e := Read(record)
		want(t, "Read of Record", readText(read, e), text(b)+" 0")
		want(t, "Record of Read", recordText(Record(read)), recordText(record, api.OK))
	}
}

// R3: a record is not its branch's, nor a branch another one's that was read from the same bytes.
func TestRecordsMemory(t *testing.T) {
	b := api.Branch{State: 0x8006, Tree: 0x0002, Hash: 0x8002, Hashes: sums(1, 2)}
	before := text(b)
	record, _ := Record(b)
	want(t, "the branch behind Record", text(b), before)
	told := fmt.Sprintf("%x", record)
	b.Hashes[0], b.Hashes[1] = sum(8), sum(9)
	want(t, "the record behind a change of its branch", fmt.Sprintf("%x", record), told)
	one, _ := Read(record)
	other, _ := Read(record)
	one.Hashes[0], one.Hashes[1] = sum(8), sum(9)
	want(t, "another branch behind a change of one", text(other), before)
	want(t, "Read again", readText(Read(record)), before+" 0")
}
