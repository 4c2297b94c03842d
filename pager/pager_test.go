package pager_test

import (
	"math"
	"slices"
	"strings"
	"testing"
	"unsafe"

	"memoir/api"
	"memoir/disk"
	"memoir/pager"
	"memoir/wal"
)

// logs is how many sectors the tests' logs have, if they do not say otherwise.
const logs = 12

// full is a page that begins with s.
func full(s string) string { return s + strings.Repeat("\x00", 128-len(s)) }

// mixed is n bytes of all kinds, the same ones each time.
func mixed(n int) string {
	l := make([]byte, n)
	c := chance(n)
	for i := range l {
		l[i] = byte(c.below(256))
	}
	return string(l)
}

func newDisk(t *testing.T, sectors int) *disk.Disk {
	t.Helper()
	d, e := disk.New(sectors)
	if d == nil || e != api.OK {
		t.Fatalf("%d sectors: error %d", sectors, e)
	}
	return d
}

func open(t *testing.T, d *disk.Disk) *pager.Pager {
	t.Helper()
	p, e := pager.Open(d, logs)
	if p == nil || e != api.OK {
		t.Fatalf("open: error %d", e)
	}
	return p
}

func newPager(t *testing.T, pages int) (*disk.Disk, *pager.Pager) {
	t.Helper()
	d := newDisk(t, logs+pages)
	return d, open(t, d)
}

func checkError(t *testing.T, what string, got, want api.Errno) {
	t.Helper()
	if got != want {
		t.Errorf("%s: %d, not %d", what, got, want)
	}
}

func write(t *testing.T, p *pager.Pager, page int, s string) {
	t.Helper()
	checkError(t, "write", p.Write(page, s), api.OK)
}

func commit(t *testing.T, p *pager.Pager) {
	t.Helper()
	checkError(t, "commit", p.Commit(), api.OK)
}

func crash(t *testing.T, d *disk.Disk, keep ...bool) {
	t.Helper()
	checkError(t, "crash", d.Crash(keep), api.OK)
}

// checkPages sees that a pager's first pages begin with these texts.
func checkPages(t *testing.T, p *pager.Pager, want ...string) {
	t.Helper()
	for page, w := range want {
		if s, e := p.Read(page); s != full(w) || e != api.OK {
			t.Errorf("page %d: %q, %d, not %q", page, s, e, w)
		}
	}
}

func checkDirty(t *testing.T, p *pager.Pager, want ...int) {
	t.Helper()
	if l := p.Dirty(); !slices.Equal(l, want) {
		t.Errorf("dirty: %v, not %v", l, want)
	}
}

// checkSectors sees that the disk's pages begin with these texts, whatever a pager tells of them.
func checkSectors(t *testing.T, d *disk.Disk, want ...string) {
	t.Helper()
	for page, w := range want {
		if s, e := d.Read(logs + page); s != full(w) || e != api.OK {
			t.Errorf("sector of page %d: %q, %d, not %q", page, s, e, w)
		}
	}
}

func checkCount(t *testing.T, d *disk.Disk, writes, flushes int) {
	t.Helper()
	if n, m := d.Count(); n != writes || m != flushes {
		t.Errorf("%d writes, %d flushes, not %d, %d", n, m, writes, flushes)
	}
}

func checkFree(t *testing.T, p *pager.Pager, want ...int) {
	t.Helper()
	var free []int
	for page := -3; page < p.Len()+3; page++ {
		if p.IsFree(page) {
			free = append(free, page)
		}
	}
	if !slices.Equal(free, want) || p.Frees() != len(want) {
		t.Errorf("free: %v, %d, not %v", free, p.Frees(), want)
	}
}

// wrongPages is numbers of which no pager of so many pages has a page.
func wrongPages(pages int) []int {
	return []int{-1, -2, -128, -1024, pages, pages + 1, pages + 8, 1024, 1 << 32, 1<<32 + 1, math.MaxInt, math.MaxInt - logs, math.MinInt, math.MinInt + 1}
}

func TestOpenArguments(t *testing.T) { // P9.1
	for _, x := range [][2]int{{5, 4}, {6, 5}, {20, 10}, {40, 20}, {1001, 1000}, {1027, 4}, {1028, 4}, {2023, 1000}, {2024, 1000}, {1500, 476}} {
		d := newDisk(t, x[0])
		p, e := pager.Open(d, x[1])
		if e != api.OK || p.Len() != x[0]-x[1] || p.Frees() != x[0]-x[1]-1 {
			t.Errorf("%v: %d, %d pages", x, e, p.Len())
		}
	}
	for _, x := range [][2]int{
		{1, 0}, {1, 1}, {4, 4}, {4, 0}, {4, 3}, {4, 5}, {5, 3}, {5, 5}, {5, 1}, {5, 2}, {5, -1}, {20, -1000}, {20, -1004}, {20, -4}, {20, 20}, {20, 21},
		{1004, 0}, {1004, 1004}, {1001, 1001}, {1002, 1001}, {1029, 4}, {2025, 1000}, {2030, 1001}, {4096, 4}, {4096, 1000}, {4096, 3072}, {4096, 4095}, {4096, 4096},
		{20, math.MaxInt}, {20, math.MinInt}, {4096, math.MinInt}, {4096, math.MinInt + 5000}, {20, 1<<32 + 10}, {20, 10 - 1<<32},
	} {
		d := newDisk(t, x[0])
		if p, e := pager.Open(d, x[1]); p != nil || e != api.ErrArg {
			t.Errorf("%v: %v, %d", x, p, e)
		}
		checkCount(t, d, 0, 0)
	}
	copied := *newDisk(t, 40)
	for _, none := range []*disk.Disk{nil, {}, &copied} {
		for _, n := range []int{-20, -4, -1, 0, 1, 4, 20, 40, math.MaxInt, math.MinInt} {
			if p, e := pager.Open(none, n); p != nil || e != api.ErrArg {
				t.Errorf("a disk that is none, %d: %v, %d", n, p, e)
			}
		}
	}
}

// TestOpenEmpty: where the log has no record, nothing is written but what wal.Open writes.
func TestOpenEmpty(t *testing.T) { // P9.1
	d := newDisk(t, logs+3)
	d.Write(logs+1, "one")
	p := open(t, d)
	checkPages(t, p, "", "one", "")
	checkDirty(t, p)
	checkCount(t, d, 2, 1)
	if dirty := d.Dirty(); len(dirty) != 0 {
		t.Error(dirty)
	}
	for n := range 2 {
		d.Fuse(n)
		if p, e := pager.Open(d, logs); p != nil || e != api.ErrState { // wal.Open's error
			t.Error(n, p, e)
		}
		crash(t, d)
	}
	d.Fuse(2)
	checkPages(t, open(t, d), "", "one", "")
	if p, e := pager.Open(d, logs+3); p != nil || e != api.ErrArg { // ahead of what wal.Open would tell
		t.Error(p, e)
	}
}

// checkNone sees that a pager that is none answers so.
func checkNone(t *testing.T, p *pager.Pager) {
	t.Helper()
	for _, page := range append(wrongPages(3), 0, 1, 2) {
		if s, e := p.Read(page); s != "" || e != api.ErrNil {
			t.Errorf("read %d: %q, %d", page, s, e)
		}
		checkError(t, "write", p.Write(page, "a"), api.ErrNil)
		checkError(t, "long write", p.Write(page, mixed(129)), api.ErrNil)
		checkError(t, "free", p.Free(page), api.ErrNil)
		if p.IsFree(page) {
			t.Error(page, "is free")
		}
	}
	if n, e := p.Alloc(); n != 0 || e != api.ErrNil {
		t.Error(n, e)
	}
	checkError(t, "commit", p.Commit(), api.ErrNil)
	p.Abort()
	checkDirty(t, p)
	if p.Len() != 0 || p.Frees() != 0 {
		t.Error(p.Len(), p.Frees())
	}
}

func TestNone(t *testing.T) { // P9.1 to P9.4: nil, and one that Open did not give
	checkNone(t, nil)
	checkNone(t, &pager.Pager{})
	d, p := newPager(t, 3)
	write(t, p, 1, "a")
	taken := *p
	checkNone(t, &taken)
	checkDirty(t, p, 1)
	d.Fuse(0)
	checkError(t, "commit", p.Commit(), api.ErrState)
	taken = *p
	checkNone(t, &taken)
}

func TestRead(t *testing.T) { // P9.2
	d, p := newPager(t, 4)
	d.Write(logs+1, mixed(128))
	d.Write(logs+2, "two")
	d.Write(logs, "map")
	checkPages(t, p, "map", mixed(128), "two", "") // be it written by others, or flushed or not
	write(t, p, 2, "")
	d.Write(logs+2, "other")
	checkPages(t, p, "map", mixed(128), "", "") // what it becomes, not its sector
	for _, page := range wrongPages(4) {
		if s, e := p.Read(page); s != "" || e != api.ErrRange {
			t.Errorf("page %d: %q, %d", page, s, e)
		}
	}
	checkDirty(t, p, 2)
}

func TestReadLast(t *testing.T) { // P9.2
	d := newDisk(t, 1028)
	d.Write(1027, "last")
	d.Write(1026, "one ahead")
	p, _ := pager.Open(d, 4)
	for page, want := range map[int]string{1023: "last", 1022: "one ahead", 1021: ""} {
		if s, e := p.Read(page); s != full(want) || e != api.OK {
			t.Errorf("page %d: %q, %d", page, s, e)
		}
	}
	if s, e := p.Read(1024); s != "" || e != api.ErrRange {
		t.Errorf("%q, %d", s, e)
	}
	checkError(t, "write", p.Write(1024, ""), api.ErrRange)
	checkError(t, "free", p.Free(1024), api.ErrRange)
}

func TestWrite(t *testing.T) { // P9.2
	d, p := newPager(t, 3)
	before, _ := d.Count()
	for _, s := range []string{"", "a", "\x00", "\x00\x00b", "a\x00b\x00", "\xff", mixed(127), mixed(128), "short again", ""} {
		write(t, p, 1, s)
		checkPages(t, p, "", s, "")
		checkSectors(t, d, "", "", "")
		checkDirty(t, p, 1)
	}
	write(t, p, 2, "b")
	for _, n := range []int{129, 130, 256, 1 << 16} {
		checkError(t, "long", p.Write(2, mixed(n)), api.ErrBig)
		checkError(t, "long", p.Write(2, strings.Repeat("\x00", n)), api.ErrBig)
		checkError(t, "page 0, and long", p.Write(0, mixed(n)), api.ErrArg)
		checkError(t, "none, and long", p.Write(3, mixed(n)), api.ErrRange)
	}
	for _, s := range []string{"", "a", mixed(128)} {
		checkError(t, "page 0", p.Write(0, s), api.ErrArg)
	}
	for _, page := range wrongPages(3) {
		checkError(t, "none", p.Write(page, "a"), api.ErrRange)
	}
	checkPages(t, p, "", "", "b")
	checkDirty(t, p, 1, 2)
	if after, _ := d.Count(); after != before {
		t.Error("the disk is written ahead of a commit")
	}
}

// TestDirty: what is written is changed, be it what the page has.
func TestDirty(t *testing.T) { // P9.2, P9.3
	_, p := newPager(t, 40)
	checkDirty(t, p)
	for _, page := range []int{17, 3, 39, 8, 3, 20, 1} {
		write(t, p, page, "")
	}
	checkDirty(t, p, 1, 3, 8, 17, 20, 39)
	if n, e := p.Alloc(); n != 1 || e != api.OK {
		t.Error(n, e)
	}
	checkDirty(t, p, 0, 1, 3, 8, 17, 20, 39)
	commit(t, p)
	checkDirty(t, p)
	checkError(t, "free", p.Free(1), api.OK)
	checkDirty(t, p, 0)
	p.Abort()
	checkDirty(t, p)
}

func TestAbort(t *testing.T) { // P9.2
	d, p := newPager(t, 4)
	p.Alloc()
	write(t, p, 1, "one")
	commit(t, p)
	before, _ := d.Count()
	p.Alloc()
	write(t, p, 1, "other")
	write(t, p, 3, "three")
	checkError(t, "free", p.Free(1), api.OK)
	checkFree(t, p, 1, 3)
	p.Abort()
	checkPages(t, p, "\x02", "one", "", "")
	checkDirty(t, p)
	checkFree(t, p, 2, 3)
	p.Abort()
	commit(t, p)
	checkPages(t, p, "\x02", "one", "", "")
	if after, _ := d.Count(); after != before {
		t.Error("what is taken back is written")
	}
	write(t, p, 2, "two")
	commit(t, p)
	checkPages(t, p, "\x02", "one", "two", "")
}

// TestAllocAll takes all pages of a greatest pager, and gives them back by leaps.
func TestAllocAll(t *testing.T) { // P9.3
	d := newDisk(t, 1028)
	p, _ := pager.Open(d, 4)
	for page := 1; page < 1024; page++ {
		if !p.IsFree(page) || p.Frees() != 1024-page {
			t.Fatal(page, p.Frees())
		}
		if n, e := p.Alloc(); n != page || e != api.OK || p.IsFree(page) {
			t.Fatal(page, n, e)
		}
	}
	for range 2 {
		if n, e := p.Alloc(); n != 0 || e != api.ErrFull || p.Frees() != 0 {
			t.Error(n, e, p.Frees())
		}
	}
	checkPages(t, p, "\xfe"+strings.Repeat("\xff", 127))
	at := 0
	for free := range 1023 {
		at = (at + 100) % 1023
		checkError(t, "free", p.Free(at+1), api.OK)
		checkError(t, "free again", p.Free(at+1), api.ErrState)
		if !p.IsFree(at+1) || p.Frees() != free+1 {
			t.Fatal(at, p.Frees())
		}
	}
	checkPages(t, p, "")
}

func TestAlloc(t *testing.T) { // P9.3
	d, p := newPager(t, 11)
	for i := range 11 {
		d.Write(logs+i, strings.Repeat("x", 128)) // the bits of x, 0x78, are 3 to 6
	}
	checkFree(t, p, 1, 2, 7, 8, 9, 10)
	write(t, p, 2, "two")
	for _, page := range []int{1, 2, 7} {
		if n, e := p.Alloc(); n != page || e != api.OK {
			t.Error(page, n, e)
		}
	}
	checkPages(t, p, "\xfe"+strings.Repeat("x", 127), "", "", strings.Repeat("x", 128))
	checkDirty(t, p, 0, 1, 2, 7)
	checkError(t, "free", p.Free(1), api.OK)
	checkError(t, "free", p.Free(6), api.OK)
	write(t, p, 1, "one")
	checkFree(t, p, 1, 6, 8, 9, 10)
	for _, page := range []int{1, 6, 8} {
		if n, e := p.Alloc(); n != page || e != api.OK {
			t.Error(page, n, e)
		}
		if s, e := p.Read(page); s != full("") || e != api.OK {
			t.Errorf("%q, %d", s, e)
		}
	}
}

// TestMapBits has each page alone free, and alone in use, by a map that others wrote; the bits of page 0, and of pages behind the last one, make no difference, and stay.
func TestMapBits(t *testing.T) { // P9.3
	d, p := newPager(t, 20)
	for page := range 128 {
		one, rest := make([]byte, 128), []byte(strings.Repeat("\xff", 128))
		one[page/8] |= 1 << (page % 8)
		rest[page/8] ^= 1 << (page % 8)
		for _, m := range [][]byte{one, rest} {
			d.Write(logs, string(m))
			var free []int
			for n := 1; n < 20; n++ {
				if m[n/8]>>(n%8)&1 == 0 {
					free = append(free, n)
				}
			}
			checkFree(t, p, free...)
			n, e := p.Alloc()
			if len(free) == 0 {
				if n != 0 || e != api.ErrFull {
					t.Error(page, n, e)
				}
				checkDirty(t, p)
				continue
			}
			if n != free[0] || e != api.OK {
				t.Error(page, n, e)
			}
			m[n/8] |= 1 << (n % 8)
			checkPages(t, p, string(m))
			checkFree(t, p, free[1:]...)
			checkError(t, "free", p.Free(n), api.OK)
			m[n/8] ^= 1 << (n % 8)
			checkPages(t, p, string(m))
			p.Abort()
		}
	}
}

func TestFree(t *testing.T) { // P9.3
	_, p := newPager(t, 5)
	for range 4 {
		p.Alloc()
	}
	write(t, p, 3, "three")
	commit(t, p)
	for _, page := range wrongPages(5) {
		checkError(t, "none", p.Free(page), api.ErrRange)
	}
	checkError(t, "page 0", p.Free(0), api.ErrArg)
	checkDirty(t, p)
	checkError(t, "free", p.Free(3), api.OK)
	checkPages(t, p, "\x16", "", "", "three", "") // what it had stays, until it is taken again
	checkDirty(t, p, 0)
	checkError(t, "free again", p.Free(3), api.ErrState)
	checkError(t, "page 0", p.Free(0), api.ErrArg)
	checkFree(t, p, 3)
	write(t, p, 3, "free, and written")
	commit(t, p)
	checkPages(t, p, "\x16", "", "", "free, and written", "")
	checkFree(t, p, 3)
	if n, e := p.Alloc(); n != 3 || e != api.OK {
		t.Error(n, e)
	}
	checkPages(t, p, "\x1e", "", "", "", "")
	if n, e := p.Alloc(); n != 0 || e != api.ErrFull {
		t.Error(n, e)
	}
	checkDirty(t, p, 0, 3)
}

// TestSmallest has a pager of the map alone.
func TestSmallest(t *testing.T) { // P9.1 to P9.4
	d := newDisk(t, 5)
	p, e := pager.Open(d, 4)
	if e != api.OK || p.Len() != 1 {
		t.Fatal(e, p.Len())
	}
	checkFree(t, p)
	if n, e := p.Alloc(); n != 0 || e != api.ErrFull {
		t.Error(n, e)
	}
	checkError(t, "write", p.Write(0, ""), api.ErrArg)
	checkError(t, "write", p.Write(1, ""), api.ErrRange)
	checkError(t, "free", p.Free(0), api.ErrArg)
	checkError(t, "free", p.Free(1), api.ErrRange)
	commit(t, p)
	checkCount(t, d, 1, 1)
}

// TestCopiedDisk: the pager reads and writes the disk that it was handed, not another one.
func TestCopiedDisk(t *testing.T) { // P9.1, R4
	d, p := newPager(t, 3)
	c := d.Copy()
	write(t, p, 1, "a")
	commit(t, p)
	checkSectors(t, d, "", "a", "")
	checkSectors(t, c, "", "", "")
	crash(t, d)
	checkSectors(t, d, "", "a", "")
}

func TestMemory(t *testing.T) { // R4
	d, p := newPager(t, 3)
	room := []byte(mixed(128))
	write(t, p, 1, unsafe.String(&room[0], 128))
	clear(room)
	checkPages(t, p, "", mixed(128), "")
	one, _ := p.Read(1)
	clear(unsafe.Slice(unsafe.StringData(one), 128))
	checkPages(t, p, "", mixed(128), "")
	write(t, p, 2, "b")
	l := p.Dirty()
	clear(l[:cap(l)])
	checkDirty(t, p, 1, 2)
	commit(t, p)
	one, _ = p.Read(1)
	clear(unsafe.Slice(unsafe.StringData(one), 128))
	checkPages(t, p, "", mixed(128), "b")
	crash(t, d)
	checkPages(t, open(t, d), "", mixed(128), "b")
}

// TestApart has two pagers on two disks.
func TestApart(t *testing.T) { // R5
	_, a := newPager(t, 3)
	_, b := newPager(t, 3)
	write(t, a, 1, "a")
	write(t, b, 2, "b")
	checkPages(t, a, "", "a", "")
	checkPages(t, b, "", "", "b")
	commit(t, a)
	checkDirty(t, b, 2)
	b.Abort()
	checkPages(t, a, "", "a", "")
}

// TestExample is the chapter's.
func TestExample(t *testing.T) { // P9.1 to P9.5
	d := newDisk(t, 40)
	p, e := pager.Open(d, 20)
	checkError(t, "open", e, api.OK)
	if n, e := p.Alloc(); n != 1 || e != api.OK {
		t.Error(n, e)
	}
	write(t, p, 1, "a")
	commit(t, p)
	crash(t, d)
	p, e = pager.Open(d, 20)
	checkError(t, "open", e, api.OK)
	checkPages(t, p, "\x02", "a")
	if n, e := p.Alloc(); n != 2 || e != api.OK {
		t.Error(n, e)
	}
}

// openLog is the log of a pager's disk.
func openLog(t *testing.T, d *disk.Disk) *wal.Log {
	t.Helper()
	l, e := wal.Open(d, 0, logs)
	if l == nil || e != api.OK {
		t.Fatalf("the log: error %d", e)
	}
	return l
}
