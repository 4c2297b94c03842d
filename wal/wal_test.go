package wal_test

import (
	"math"
	"slices"
	"strings"
	"testing"
	"unsafe"

	"memoir/api"
	"memoir/crc"
	"memoir/disk"
	"memoir/wal"
)

func newDisk(t *testing.T, sectors int) *disk.Disk {
	t.Helper()
	d, e := disk.New(sectors)
	if d == nil || e != api.OK {
		t.Fatalf("%d sectors: error %d", sectors, e)
	}
	return d
}

func checkError(t *testing.T, what string, got, want api.Errno) {
	t.Helper()
	if got != want {
		t.Errorf("%s: %d, not %d", what, got, want)
	}
}

// open is the log of a whole disk.
func open(t *testing.T, d *disk.Disk) *wal.Log {
	t.Helper()
	l, e := wal.Open(d, 0, d.Len())
	if l == nil || e != api.OK {
		t.Fatalf("open: error %d", e)
	}
	return l
}

func newLog(t *testing.T, places int) (*disk.Disk, *wal.Log) {
	t.Helper()
	d := newDisk(t, places+2)
	return d, open(t, d)
}

func appendAll(t *testing.T, l *wal.Log, records ...string) {
	t.Helper()
	for _, s := range records {
		checkError(t, "append", l.Append(s), api.OK)
	}
}

func commit(t *testing.T, l *wal.Log) {
	t.Helper()
	checkError(t, "commit", l.Commit(), api.OK)
}

func crash(t *testing.T, d *disk.Disk, keep ...bool) {
	t.Helper()
	checkError(t, "crash", d.Crash(keep), api.OK)
}

func checkLog(t *testing.T, l *wal.Log, gen, used int, records ...string) {
	t.Helper()
	if l.Gen() != gen || l.Used() != used {
		t.Errorf("gen %d, %d used, not %d, %d", l.Gen(), l.Used(), gen, used)
	}
	if r := l.Records(); !slices.Equal(r, records) {
		t.Errorf("records %.60q, not %.60q", r, records)
	}
}

func read(t *testing.T, d *disk.Disk, at int) string {
	t.Helper()
	s, e := d.Read(at)
	checkError(t, "read", e, api.OK)
	return s
}

// checkSector sees that a sector has a body's Seal, and nothing behind it.
func checkSector(t *testing.T, d *disk.Disk, at int, body string) {
	t.Helper()
	s, want := read(t, d, at), sealed(body)
	if s != want+strings.Repeat("\x00", 128-len(want)) {
		t.Errorf("sector %d: %q, not %q", at, s, body)
	}
}

func checkUntouched(t *testing.T, d *disk.Disk, at int) {
	t.Helper()
	if s := read(t, d, at); s != strings.Repeat("\x00", 128) {
		t.Errorf("sector %d: %q", at, s)
	}
}

// sum is the four bytes of a record's sum.
func sum(record string) string { return crc.Put(record)[len(record):] }

func TestOpenArguments(t *testing.T) { // P8.2
	d := newDisk(t, 10)
	d.Write(3, "a")
	least, greatest := math.MinInt, math.MaxInt
	for _, x := range [][2]int{
		{0, 3}, {0, 0}, {0, -1}, {0, -4}, {4, 2}, {0, 11}, {1, 10}, {6, 5}, {7, 4}, {10, 4}, {11, 4}, {-1, 4}, {-1, 11}, {-4, 4}, {-10, 10},
		{0, greatest}, {0, least}, {greatest, 4}, {least, 4}, {greatest, greatest}, {least, least}, {greatest, 1000}, {least, 1000}, {greatest - 3, 4}, {1 << 32, 4}, {0, 1<<32 + 4},
	} {
		if l, e := wal.Open(d, x[0], x[1]); l != nil || e != api.ErrArg {
			t.Errorf("%v: %v, %d", x, l, e)
		}
	}
	if n, m := d.Count(); n != 1 || m != 0 {
		t.Errorf("refused, and yet %d writes, %d flushes", n, m)
	}
	wide := newDisk(t, 4096)
	for _, n := range []int{1001, 1002, 4096} {
		if l, e := wal.Open(wide, 0, n); l != nil || e != api.ErrArg {
			t.Errorf("%d sectors: %v, %d", n, l, e)
		}
	}
	copied := *d
	for _, none := range []*disk.Disk{nil, {}, &copied} {
		for _, n := range []int{0, 3, 4, 10} {
			if l, e := wal.Open(none, 0, n); l != nil || e != api.ErrArg {
				t.Errorf("a disk that is none: %v, %d", l, e)
			}
		}
	}
}

func TestOpenEmpty(t *testing.T) { // P8.2, P8.3
	d := newDisk(t, 4096)
	for _, x := range [][2]int{{0, 4}, {4, 5}, {9, 1000}, {3096, 1000}, {3092, 4}} {
		l, e := wal.Open(d, x[0], x[1])
		if e != api.OK {
			t.Fatal(x, e)
		}
		checkLog(t, l, 1, 0)
		checkUntouched(t, d, x[0])
		checkSector(t, d, x[0]+1, "S\x01\x00")
		room := 100 * (x[1] - 2)
		if !l.Fits(room) || l.Fits(room+1) {
			t.Error(x, "room")
		}
	}
	if n, m := d.Count(); n != 5 || m != 5 {
		t.Error(n, m)
	}
}

// TestOpenTurns opens a log again and again: the slots are written by turns.
func TestOpenTurns(t *testing.T) { // P8.2
	d := newDisk(t, 9)
	for gen := 1; gen < 300; gen++ {
		d.Write(8, "z")
		l, e := wal.Open(d, 3, 5)
		if e != api.OK {
			t.Fatal(e)
		}
		checkLog(t, l, gen, 0)
		body := "S" + uvarint(gen) + "\x00"
		checkSector(t, d, 3+gen%2, body)
		if dirty := d.Dirty(); len(dirty) != 0 {
			t.Error("not flushed", dirty)
		}
		crash(t, d)
		checkSector(t, d, 3+gen%2, body)
	}
	if n, m := d.Count(); n != 598 || m != 299 {
		t.Error(n, m)
	}
}

// TestOpenCut has disks that take no write, or no flush, behind what Open reads.
func TestOpenCut(t *testing.T) { // P8.2
	for n := range 2 {
		for _, keep := range [][]bool{nil, {true}} {
			keep = keep[:min(len(keep), n)]
			d, l := newLog(t, 4)
			appendAll(t, l, "a")
			commit(t, l)
			d.Fuse(n)
			if l, e := wal.Open(d, 0, 6); l != nil || e != api.ErrState {
				t.Error(l, e)
			}
			crash(t, d, keep...)
			checkLog(t, open(t, d), 2+len(keep), 1, "a")
		}
	}
}

func TestAppend(t *testing.T) { // P8.3
	d := newDisk(t, 20)
	l, _ := wal.Open(d, 5, 12)
	hundred, long := mixed(100), mixed(250)
	used := 0
	for _, s := range []string{"a", "", hundred, long, "\x00\xff"} {
		appendAll(t, l, s)
		used += []int{1, 3}[len(s)/250]
		if l.Used() != used {
			t.Errorf("%d bytes: %d used, not %d", len(s), l.Used(), used)
		}
	}
	checkLog(t, l, 1, 7, "a", "", hundred, long, "\x00\xff")
	checkSector(t, d, 7, "L\x01\x00\x00"+sum("a")+"a")
	checkSector(t, d, 8, "L\x01\x01\x00\x00\x00\x00\x00")
	checkSector(t, d, 9, "L\x01\x02\x00"+sum(hundred)+hundred)
	checkSector(t, d, 10, "L\x01\x03\x01"+sum(long)+long[:100])
	checkSector(t, d, 11, "L\x01\x04\x01"+sum(long)+long[100:200])
	checkSector(t, d, 12, "L\x01\x05\x00"+sum(long)+long[200:])
	checkSector(t, d, 13, "L\x01\x06\x00"+sum("\x00\xff")+"\x00\xff")
	for _, at := range []int{0, 1, 2, 3, 4, 5, 14, 15, 16, 17, 18, 19} {
		checkUntouched(t, d, at)
	}
	if dirty := d.Dirty(); !slices.Equal(dirty, []int{7, 8, 9, 10, 11, 12, 13}) { // in order, and nothing is flushed
		t.Error(dirty)
	}
	commit(t, l)
	crash(t, d)
	l, _ = wal.Open(d, 5, 12)
	checkLog(t, l, 2, 7, "a", "", hundred, long, "\x00\xff")
	appendAll(t, l, "b")
	checkSector(t, d, 14, "L\x02\x07\x00"+sum("b")+"b")
	checkLog(t, l, 2, 8, "a", "", hundred, long, "\x00\xff", "b")
}

// TestGreatTurns has places whose turn and number have more bytes.
func TestGreatTurns(t *testing.T) { // P8.2, P8.3
	d := newDisk(t, 1000)
	d.Write(1, sealed("S"+uvarint(1<<40-1)+uvarint(300)))
	l := open(t, d)
	checkLog(t, l, 1<<40, 0)
	checkSector(t, d, 0, "S"+uvarint(1<<40)+uvarint(300))
	long := mixed(99800)
	appendAll(t, l, long)
	for _, i := range []int{0, 127, 128, 996, 997} {
		more := []string{"\x01", "\x00"}[i/997]
		checkSector(t, d, 2+i, "L"+uvarint(1<<40)+uvarint(i)+more+sum(long)+long[100*i:100*i+100])
	}
	checkError(t, "full", l.Append(""), api.ErrFull)
	commit(t, l)
	crash(t, d)
	checkLog(t, open(t, d), 1<<40+1, 998, long)
}

func TestFits(t *testing.T) { // P8.3
	for places := 2; places < 8; places++ {
		_, l := newLog(t, places)
		for used := range places + 1 {
			room := 100 * (places - used)
			for n := -3; n < 1000; n++ {
				want := n >= 0 && n <= room && room > 0
				if l.Fits(n) != want {
					t.Errorf("%d of %d places used: %d bytes fit: %v", used, places, n, !want)
				}
			}
			for _, n := range []int{math.MaxInt, math.MaxInt - 1, math.MaxInt - 99, math.MaxInt - 98, 1 << 62, 1 << 32, 1<<32 + 1, math.MinInt, math.MinInt + 1, -100, -101} {
				if l.Fits(n) {
					t.Errorf("%d bytes fit", n)
				}
			}
			if used < places {
				appendAll(t, l, "a")
			}
		}
	}
}

func TestFull(t *testing.T) { // P8.3
	d, l := newLog(t, 4)
	for _, n := range []int{401, 402, 500, 1 << 20} {
		checkError(t, "full", l.Append(mixed(n)), api.ErrFull)
	}
	checkLog(t, l, 1, 0)
	appendAll(t, l, "a", mixed(101))
	for _, n := range []int{101, 200, 201, 400} {
		checkError(t, "full", l.Append(mixed(n)), api.ErrFull)
	}
	checkLog(t, l, 1, 3, "a", mixed(101))
	appendAll(t, l, mixed(100))
	for _, n := range []int{0, 1, 100, 101} {
		checkError(t, "full", l.Append(mixed(n)), api.ErrFull)
	}
	if n, _ := d.Count(); n != 5 {
		t.Error(n, "writes")
	}
	d.Fuse(0)
	checkError(t, "full, and burnt", l.Append(""), api.ErrFull) // that does not halt it
	crash(t, d, true, true, true, true)
	commit(t, l)
	checkLog(t, open(t, d), 2, 4, "a", mixed(101), mixed(100))
}

func checkHalted(t *testing.T, l *wal.Log) {
	t.Helper()
	for range 2 {
		checkError(t, "append", l.Append("z"), api.ErrState)
		checkError(t, "append of too much", l.Append(mixed(5000)), api.ErrState)
		checkError(t, "commit", l.Commit(), api.ErrState)
		checkError(t, "reset", l.Reset(), api.ErrState)
	}
}

// TestHalted burns the fuse in each of the calls; the disk is whole again then, the log is not.
func TestHalted(t *testing.T) { // P8.3, P8.4, R2
	type cut struct {
		fuse int
		call func(l *wal.Log) api.Errno
	}
	long := func(l *wal.Log) api.Errno { return l.Append(mixed(250)) }
	for i, c := range []cut{{0, long}, {1, long}, {2, long}, {0, (*wal.Log).Commit}, {0, (*wal.Log).Reset}, {1, (*wal.Log).Reset}} {
		for _, anew := range []bool{false, true} {
			d, l := newLog(t, 8)
			appendAll(t, l, "a")
			d.Fuse(c.fuse)
			checkError(t, "cut", c.call(l), api.ErrState)
			checkLog(t, l, 1, 1, "a")
			if dirty := d.Dirty(); len(dirty) != 1+c.fuse {
				t.Error(i, dirty)
			}
			checkHalted(t, l)
			if anew {
				d.Fuse(1000)
			} else {
				crash(t, d, true)
			}
			before, _ := d.Count()
			checkHalted(t, l)
			if after, _ := d.Count(); after != before {
				t.Error(i, "a halted log writes")
			}
			checkLog(t, l, 1, 1, "a")
			if !l.Fits(700) || l.Fits(701) {
				t.Error(i, "room")
			}
		}
	}
}

// TestErrorIsTheDisks has a disk that is none any more: that, too, is told.
func TestErrorIsTheDisks(t *testing.T) { // P8.3, P8.4
	for _, call := range []func(l *wal.Log) api.Errno{func(l *wal.Log) api.Errno { return l.Append("a") }, (*wal.Log).Commit, (*wal.Log).Reset} {
		d, l := newLog(t, 4)
		*d = disk.Disk{}
		checkError(t, "gone", call(l), api.ErrNil)
		checkHalted(t, l)
	}
}

func TestCommit(t *testing.T) { // P8.4
	d, l := newLog(t, 4)
	commit(t, l)
	appendAll(t, l, "a")
	d.Write(1, sealed("S\x01\x00")) // all that is written, not the log's alone
	commit(t, l)
	if dirty := d.Dirty(); len(dirty) != 0 {
		t.Error(dirty)
	}
	if n, m := d.Count(); n != 3 || m != 3 {
		t.Error(n, m)
	}
	crash(t, d)
	checkLog(t, l, 1, 1, "a")
	checkLog(t, open(t, d), 2, 1, "a")
}

func TestReset(t *testing.T) { // P8.4, P8.5
	d, l := newLog(t, 4)
	appendAll(t, l, "a", "b", "c", "d")
	commit(t, l)
	for gen := 2; gen < 9; gen++ {
		checkError(t, "reset", l.Reset(), api.OK)
		checkLog(t, l, gen, 0)
		checkSector(t, d, gen%2, "S"+uvarint(gen)+uvarint(gen))
		if dirty := d.Dirty(); len(dirty) != 0 || !l.Fits(400) || l.Fits(401) {
			t.Error(dirty)
		}
		crash(t, d)
		checkLog(t, open(t, d.Copy()), gen+1, 0)
	}
	appendAll(t, l, "e")
	checkSector(t, d, 2, "L\x08\x00\x00"+sum("e")+"e")
	checkSector(t, d, 3, "L\x01\x01\x00"+sum("b")+"b") // Reset writes no place
	commit(t, l)
	crash(t, d)
	l = open(t, d)
	checkLog(t, l, 9, 1, "e")
	checkSector(t, d, 1, "S\x09\x08") // the base stays
	appendAll(t, l, "f")
	commit(t, l)
	checkLog(t, open(t, d), 10, 2, "e", "f")
	checkSector(t, d, 0, "S\x0a\x08")
}

// TestResetUnflushed: what was appended is flushed with it, and is not the log's.
func TestResetUnflushed(t *testing.T) { // P8.4, P8.5
	d, l := newLog(t, 4)
	appendAll(t, l, "a", mixed(150))
	checkError(t, "reset", l.Reset(), api.OK)
	crash(t, d)
	checkSector(t, d, 2, "L\x01\x00\x00"+sum("a")+"a")
	checkLog(t, open(t, d), 3, 0)
}

// checkNone sees that a log that is none answers so.
func checkNone(t *testing.T, l *wal.Log) {
	t.Helper()
	for _, n := range []int{0, 1, 100, 100000} {
		checkError(t, "append", l.Append(mixed(n)), api.ErrNil)
		if l.Fits(n) || l.Fits(-n) {
			t.Error(n, "bytes fit")
		}
	}
	checkError(t, "commit", l.Commit(), api.ErrNil)
	checkError(t, "reset", l.Reset(), api.ErrNil)
	checkLog(t, l, 0, 0)
}

func TestNone(t *testing.T) { // P8.2 to P8.4: nil, and one that Open did not give
	checkNone(t, nil)
	checkNone(t, &wal.Log{})
	d, l := newLog(t, 4)
	appendAll(t, l, "a")
	taken := *l
	checkNone(t, &taken)
	d.Fuse(0)
	l.Commit()
	taken = *l
	checkNone(t, &taken)
	crash(t, d, true)
	checkLog(t, l, 1, 1, "a")
	checkLog(t, open(t, d), 2, 1, "a")
}

// TestApart has two logs on one disk, side by side.
func TestApart(t *testing.T) { // P8.2, R5
	d := newDisk(t, 12)
	a, _ := wal.Open(d, 0, 6)
	b, _ := wal.Open(d, 6, 6)
	appendAll(t, a, "a", mixed(300))
	appendAll(t, b, "b")
	checkError(t, "full", a.Append(""), api.ErrFull)
	checkError(t, "reset", b.Reset(), api.OK)
	appendAll(t, b, "c")
	checkLog(t, a, 1, 4, "a", mixed(300))
	checkLog(t, b, 2, 1, "c")
	a, _ = wal.Open(d, 0, 6)
	b, _ = wal.Open(d, 6, 6)
	checkLog(t, a, 2, 4, "a", mixed(300))
	checkLog(t, b, 3, 1, "c")
}

func TestMemory(t *testing.T) { // R4
	d, l := newLog(t, 8)
	room := []byte(mixed(150))
	appendAll(t, l, "a", unsafe.String(&room[0], len(room)))
	clear(room)
	checkLog(t, l, 1, 3, "a", mixed(150))
	one, two := l.Records(), l.Records()
	if unsafe.StringData(one[1]) == unsafe.StringData(two[1]) {
		t.Error("two answers share memory")
	}
	one[0] = "z"
	clear(unsafe.Slice(unsafe.StringData(one[1]), 150))
	one = append(one, "y", "x")
	appendAll(t, l, "b")
	checkLog(t, l, 1, 4, "a", mixed(150), "b")
	if !slices.Equal(two, []string{"a", mixed(150)}) || len(one) != 4 {
		t.Error(two)
	}
	checkLog(t, open(t, d), 2, 4, "a", mixed(150), "b")
}

// TestExamples is the chapter's, and the document's fourth one.
func TestExamples(t *testing.T) { // P8.5
	d, l := newLog(t, 4)
	appendAll(t, l, "a")
	commit(t, l)
	crash(t, d)
	checkLog(t, open(t, d), 2, 1, "a")
	d, l = newLog(t, 4)
	appendAll(t, l, "a")
	crash(t, d)
	checkLog(t, open(t, d), 2, 0)
	d, l = newLog(t, 4)
	appendAll(t, l, mixed(250))
	crash(t, d, false, false, true)
	checkLog(t, open(t, d), 2, 0)
}
