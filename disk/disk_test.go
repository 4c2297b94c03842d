package disk_test

import (
	"math"
	"slices"
	"strings"
	"testing"
	"unsafe"

	"memoir/api"
	"memoir/disk"
)

// full is a sector that begins with s.
func full(s string) string { return s + strings.Repeat("\x00", 128-len(s)) }

func newDisk(t *testing.T, sectors int) *disk.Disk {
	t.Helper()
	d, e := disk.New(sectors)
	if d == nil || e != api.OK {
		t.Fatalf("%d sectors: error %d", sectors, e)
	}
	return d
}

// checkRead sees that a disk's first sectors begin with these texts.
func checkRead(t *testing.T, d *disk.Disk, want ...string) {
	t.Helper()
	for at, w := range want {
		if s, e := d.Read(at); s != full(w) || e != api.OK {
			t.Errorf("sector %d: %q, %d, not %q", at, s, e, w)
		}
	}
}

func checkDirty(t *testing.T, d *disk.Disk, want ...int) {
	t.Helper()
	if l := d.Dirty(); !slices.Equal(l, want) {
		t.Errorf("dirty: %v, not %v", l, want)
	}
}

func checkCount(t *testing.T, d *disk.Disk, writes, flushes int) {
	t.Helper()
	if n, m := d.Count(); n != writes || m != flushes {
		t.Errorf("%d writes and %d flushes, not %d and %d", n, m, writes, flushes)
	}
}

func checkError(t *testing.T, what string, got, want api.Errno) {
	t.Helper()
	if got != want {
		t.Errorf("%s: %d, not %d", what, got, want)
	}
}

// write lays texts into sectors, each told as its number, a digit, and then the text.
func write(t *testing.T, d *disk.Disk, l ...string) {
	t.Helper()
	for _, s := range l {
		checkError(t, "write "+s, d.Write(int(s[0]-'0'), s[1:]), api.OK)
	}
}

func flush(t *testing.T, d *disk.Disk) {
	t.Helper()
	checkError(t, "flush", d.Flush(), api.OK)
}

func crash(t *testing.T, d *disk.Disk, keep ...bool) {
	t.Helper()
	checkError(t, "crash", d.Crash(keep), api.OK)
}

func TestNew(t *testing.T) { // P7.1
	for _, n := range []int{1, 2, 3, 127, 128, 129, 1000, 4095, 4096} {
		d := newDisk(t, n)
		if d.Len() != n {
			t.Errorf("%d sectors, not %d", d.Len(), n)
		}
		for at := range n {
			if s, e := d.Read(at); s != full("") || e != api.OK {
				t.Errorf("sector %d of %d: %q, %d", at, n, s, e)
			}
		}
		checkDirty(t, d)
		checkCount(t, d, 0, 0)
	}
	for _, n := range []int{0, -1, -4096, 4097, 5000, 1 << 32, 1<<32 + 1, math.MaxInt, math.MinInt, math.MinInt + 1} {
		if d, e := disk.New(n); d != nil || e != api.ErrArg {
			t.Errorf("%d sectors: %v, %d", n, d, e)
		}
	}
}

func TestLen(t *testing.T) { // P7.1
	d := newDisk(t, 3)
	write(t, d, "0a", "2b")
	flush(t, d)
	write(t, d, "0")
	crash(t, d, true)
	d.Fuse(0)
	if d.Len() != 3 || d.Copy().Len() != 3 {
		t.Error(d.Len(), d.Copy().Len())
	}
}

// checkNone sees that a disk that is none answers so.
func checkNone(t *testing.T, d *disk.Disk) {
	t.Helper()
	for _, at := range []int{-1, 0, 1, 4096} {
		if s, e := d.Read(at); s != "" || e != api.ErrNil {
			t.Errorf("read %d: %q, %d", at, s, e)
		}
		checkError(t, "write", d.Write(at, "a"), api.ErrNil)
		checkError(t, "long write", d.Write(at, strings.Repeat("a", 129)), api.ErrNil)
		d.Fuse(at)
		checkError(t, "flush", d.Flush(), api.ErrNil)
	}
	for n := range 3 {
		checkError(t, "crash", d.Crash(make([]bool, n)), api.ErrNil)
	}
	if l, n := d.Dirty(), d.Len(); len(l) != 0 || n != 0 {
		t.Error(l, n)
	}
	checkCount(t, d, 0, 0)
	if c := d.Copy(); c != nil {
		t.Error("a copy of none")
	}
}

func TestNone(t *testing.T) { // P7.1 to P7.4: nil, and one that New did not give
	checkNone(t, nil)
	checkNone(t, &disk.Disk{})
	d := newDisk(t, 2)
	write(t, d, "0a")
	flush(t, d)
	write(t, d, "0b")
	taken := *d
	checkNone(t, &taken)
	checkRead(t, d, "b", "")
	checkDirty(t, d, 0)
	checkCount(t, d, 2, 1)
	crash(t, d)
	checkRead(t, d, "a", "")
}

func TestWrite(t *testing.T) { // P7.2
	d := newDisk(t, 10)
	all := make([]byte, 256)
	for i := range all {
		all[i] = byte(i)
	}
	for i, s := range []string{"", "a", "\x00", "\x00\x00b", "a\x00b\x00", "\xff", string(all[:128]), string(all[128:]), string(all[:127]), strings.Repeat("\xff", 128)} {
		checkError(t, "write", d.Write(i, s), api.OK)
		checkRead(t, d, "")
		if got, e := d.Read(i); got != full(s) || e != api.OK {
			t.Errorf("%q: %q, %d", s, got, e)
		}
	}
	for _, s := range []string{strings.Repeat("\xff", 128), "abc", "a", strings.Repeat("\x00", 128), "d", ""} {
		write(t, d, "9"+s)
		if got, e := d.Read(9); got != full(s) || e != api.OK { // nothing of what was there is left behind it
			t.Errorf("%q: %q, %d", s, got, e)
		}
	}
}

func TestReadIsLast(t *testing.T) { // P7.2
	d := newDisk(t, 3)
	write(t, d, "0a", "1b", "0c", "2d", "1e")
	checkRead(t, d, "c", "e", "d")
	flush(t, d)
	checkRead(t, d, "c", "e", "d")
	write(t, d, "1", "0f", "0g")
	checkRead(t, d, "g", "", "d")
	flush(t, d)
	checkRead(t, d, "g", "", "d")
}

func TestRange(t *testing.T) { // P7.2
	for _, n := range []int{1, 2, 4096} {
		d := newDisk(t, n)
		write(t, d, "0a")
		checkError(t, "the last one", d.Write(n-1, "b"), api.OK)
		for _, at := range []int{-1, n, n + 1, -n, 4096, 4097, 1 << 32, -1 << 32, math.MaxInt, math.MinInt} {
			if s, e := d.Read(at); s != "" || e != api.ErrRange {
				t.Errorf("sector %d of %d: %q, %d", at, n, s, e)
			}
			checkError(t, "no sector", d.Write(at, "c"), api.ErrRange)
			checkError(t, "no sector, too long", d.Write(at, strings.Repeat("c", 129)), api.ErrRange)
		}
		checkDirty(t, d, 0, n-1)
		checkCount(t, d, 2, 0)
	}
}

func TestBig(t *testing.T) { // P7.2
	d := newDisk(t, 2)
	write(t, d, "0a")
	for _, n := range []int{129, 130, 256, 384, 1 << 16} {
		checkError(t, "too long", d.Write(0, strings.Repeat("\x00", n)), api.ErrBig)
		checkError(t, "too long", d.Write(1, strings.Repeat("b", n)), api.ErrBig)
	}
	checkRead(t, d, "a", "")
	checkDirty(t, d, 0)
	checkCount(t, d, 1, 0)
}

// TestErrorsInOrder has a burnt fuse too: what is wrong with the sector, and then with the text, is told ahead of it.
func TestErrorsInOrder(t *testing.T) { // P7.2, R2
	d := newDisk(t, 2)
	d.Fuse(0)
	long := strings.Repeat("a", 129)
	for _, at := range []int{-1, 2} {
		checkError(t, "no sector", d.Write(at, "a"), api.ErrRange)
		checkError(t, "no sector, too long", d.Write(at, long), api.ErrRange)
	}
	checkError(t, "too long", d.Write(1, long), api.ErrBig)
	checkError(t, "burnt", d.Write(1, long[1:]), api.ErrState)
	checkError(t, "burnt", d.Flush(), api.ErrState)
	checkRead(t, d, "", "")
	checkDirty(t, d)
	checkCount(t, d, 0, 0)
}

func TestFlush(t *testing.T) { // P7.2, P7.5
	d := newDisk(t, 3)
	flush(t, d)
	write(t, d, "0a", "1b", "0c")
	flush(t, d)
	checkDirty(t, d)
	for range 3 {
		crash(t, d)
		checkRead(t, d, "c", "b", "")
	}
	write(t, d, "0", "1d")
	flush(t, d)
	crash(t, d)
	checkRead(t, d, "", "d", "")
	flush(t, d)
	checkRead(t, d, "", "d", "")
}

func TestDirty(t *testing.T) { // P7.3
	d := newDisk(t, 4)
	checkDirty(t, d)
	var want []int
	for _, s := range []string{"3a", "1b", "3c", "0", "3c", "1", "1"} { // one that changes nothing is a write too
		write(t, d, s)
		want = append(want, int(s[0]-'0'))
		checkDirty(t, d, want...)
	}
	l := d.Dirty()
	l[0] = 2
	_ = append(l, 2, 2)
	checkDirty(t, d, want...)
	checkError(t, "too many", d.Crash(make([]bool, 8)), api.ErrArg)
	checkDirty(t, d, want...)
	crash(t, d, true)
	checkDirty(t, d)
	write(t, d, "2z")
	checkDirty(t, d, 2)
	flush(t, d)
	checkDirty(t, d)
}

// TestCrash lays five writes over what was flushed, and keeps each choice of them.
func TestCrash(t *testing.T) { // P7.3, P7.5
	writes := []string{"0b", "1", "0c", "2x", "0"}
	for n := range len(writes) + 1 {
		for choice := range 1 << n {
			d := newDisk(t, 3)
			write(t, d, "0a", "1a")
			flush(t, d)
			write(t, d, writes...)
			want := []string{"a", "a", ""}
			keep := make([]bool, n)
			for i := range keep {
				if keep[i] = choice>>i&1 == 1; keep[i] {
					want[writes[i][0]-'0'] = writes[i][1:]
				}
			}
			given := slices.Clone(keep)
			crash(t, d, keep...)
			checkRead(t, d, want...)
			checkDirty(t, d)
			checkCount(t, d, 7, 1)
			crash(t, d)
			checkRead(t, d, want...)
			if !slices.Equal(keep, given) {
				t.Error("what was handed in is changed")
			}
		}
	}
}

// TestCrashes has crashes without a flush between: what stayed in one is there in the next one.
func TestCrashes(t *testing.T) { // P7.3, P7.5
	d := newDisk(t, 2)
	write(t, d, "0a", "1b")
	crash(t, d, true, false)
	checkRead(t, d, "a", "")
	write(t, d, "0c", "1d", "0e")
	crash(t, d, false, true)
	checkRead(t, d, "a", "d")
	write(t, d, "0", "1")
	crash(t, d, false, false)
	checkRead(t, d, "a", "d")
	write(t, d, "0", "1")
	crash(t, d, true, true)
	checkRead(t, d, "", "")
	write(t, d, "0f", "1g")
	crash(t, d)
	checkRead(t, d, "", "")
}

func TestCrashRefused(t *testing.T) { // P7.3
	d := newDisk(t, 2)
	checkError(t, "of none", d.Crash([]bool{false}), api.ErrArg)
	crash(t, d)
	write(t, d, "0a", "1b")
	d.Fuse(1)
	for _, n := range []int{3, 4, 100} {
		checkError(t, "too many", d.Crash(make([]bool, n)), api.ErrArg)
		checkError(t, "too many", d.Crash(slices.Repeat([]bool{true}, n)), api.ErrArg)
	}
	checkRead(t, d, "a", "b")
	checkDirty(t, d, 0, 1)
	write(t, d, "0c")
	checkError(t, "the fuse is as it was", d.Flush(), api.ErrState)
	checkError(t, "too many", d.Crash(make([]bool, 4)), api.ErrArg)
	checkError(t, "the fuse is as it was", d.Flush(), api.ErrState)
	crash(t, d, false, true, false)
	checkRead(t, d, "", "b")
}

func TestFuse(t *testing.T) { // P7.4
	for n := range 5 {
		for mask := range 1 << n { // each row of writes and flushes
			d := newDisk(t, 2)
			d.Fuse(n)
			for i := range n {
				checkRead(t, d, "")
				checkError(t, "no sector", d.Write(2, ""), api.ErrRange) // errors don't burn it
				checkError(t, "too long", d.Write(1, strings.Repeat("a", 129)), api.ErrBig)
				if mask>>i&1 == 1 {
					write(t, d, "1a")
				} else {
					flush(t, d)
				}
			}
			dirty := d.Dirty()
			for range 2 {
				checkError(t, "burnt", d.Write(0, "z"), api.ErrState)
				checkError(t, "burnt", d.Flush(), api.ErrState)
			}
			checkRead(t, d, "")
			checkDirty(t, d, dirty...)
			crash(t, d)
			write(t, d, "0z", "1z", "0y", "1y", "0x")
			flush(t, d)
		}
	}
}

func TestFuseBelowOne(t *testing.T) { // P7.4
	for _, n := range []int{0, -1, -2, math.MinInt} {
		d := newDisk(t, 1)
		write(t, d, "0a")
		d.Fuse(n)
		checkError(t, "burnt", d.Write(0, "b"), api.ErrState)
		checkError(t, "burnt", d.Flush(), api.ErrState)
		checkRead(t, d, "a")
		checkDirty(t, d, 0)
		checkCount(t, d, 1, 0)
		crash(t, d)
		write(t, d, "0c")
		flush(t, d)
		checkRead(t, d, "c")
	}
}

func TestFuseNone(t *testing.T) { // P7.4
	d, long := newDisk(t, 1), newDisk(t, 1)
	long.Fuse(math.MaxInt)
	for range 5000 {
		write(t, d, "0a")
		write(t, long, "0a")
	}
	flush(t, d)
	flush(t, long)
	checkCount(t, d, 5000, 1)
	checkCount(t, long, 5000, 1)
}

// TestFuseAnew lays a fuse in the place of another one: a longer one, a shorter one, a burnt one.
func TestFuseAnew(t *testing.T) { // P7.4
	for first := range 4 {
		for second := range 4 {
			d := newDisk(t, 1)
			d.Fuse(first)
			for range min(first, 2) {
				flush(t, d)
			}
			d.Fuse(second)
			for range second {
				flush(t, d)
			}
			checkError(t, "burnt", d.Flush(), api.ErrState)
			checkCount(t, d, 0, min(first, 2)+second)
		}
	}
}

func TestFuseIsOver(t *testing.T) { // P7.4
	for n := range 4 {
		d := newDisk(t, 1)
		d.Fuse(n)
		for range min(n, 1) {
			write(t, d, "0a")
		}
		crash(t, d)
		for range 10 {
			write(t, d, "0b")
			flush(t, d)
		}
		d.Fuse(1)
		flush(t, d)
		checkError(t, "burnt", d.Flush(), api.ErrState)
	}
}

func TestCount(t *testing.T) { // P7.4
	d := newDisk(t, 2)
	write(t, d, "0", "0a", "0a")
	checkCount(t, d, 3, 0)
	flush(t, d)
	flush(t, d)
	checkCount(t, d, 3, 2)
	d.Write(2, "")
	d.Write(0, strings.Repeat("a", 129))
	d.Read(0)
	d.Read(2)
	d.Crash(make([]bool, 1))
	d.Dirty()
	d.Copy().Write(0, "")
	d.Fuse(1)
	checkCount(t, d, 3, 2)
	write(t, d, "1b")
	d.Write(0, "")
	d.Flush()
	checkCount(t, d, 4, 2)
	crash(t, d)
	checkCount(t, d, 4, 2)
	write(t, d, "0")
	flush(t, d)
	checkCount(t, d, 5, 3)
}

func TestCopy(t *testing.T) { // P7.4
	d := newDisk(t, 3)
	write(t, d, "0a", "1b")
	flush(t, d)
	write(t, d, "0c", "2d")
	d.Fuse(2)
	for _, c := range []*disk.Disk{d.Copy(), d.Copy().Copy()} {
		checkRead(t, c, "c", "b", "d")
		checkDirty(t, c, 0, 2)
		checkCount(t, c, 4, 1)
		write(t, c, "1e")
		checkError(t, "too many", c.Crash(make([]bool, 4)), api.ErrArg)
		write(t, c, "1f")
		checkError(t, "burnt", c.Write(1, "g"), api.ErrState)
		checkError(t, "burnt", c.Copy().Write(1, "g"), api.ErrState)
		crash(t, c, false, true, true, false)
		checkRead(t, c, "a", "e", "d")
		checkRead(t, d, "c", "b", "d")
		checkDirty(t, d, 0, 2)
		checkCount(t, d, 4, 1)
	}
	c := d.Copy()
	write(t, d, "1h", "2h")
	checkError(t, "burnt", d.Flush(), api.ErrState)
	crash(t, d, true)
	checkRead(t, d, "c", "b", "")
	checkRead(t, c, "c", "b", "d")
	checkDirty(t, c, 0, 2)
	flush(t, c)
	crash(t, c)
	checkRead(t, c, "c", "b", "d")
	checkRead(t, newDisk(t, 1).Copy(), "")
}

// TestCopyCaches writes into a disk and its copies by turns: none has the other's writes.
func TestCopyCaches(t *testing.T) { // P7.4
	for n := range 9 {
		d := newDisk(t, 2)
		for range n {
			write(t, d, "0a")
		}
		a, b := d.Copy(), d.Copy()
		write(t, d, "1d")
		write(t, a, "0b", "1b")
		write(t, b, "0c", "1c", "1c")
		for _, x := range []*disk.Disk{a, b, d} {
			extra := x.Dirty()[n:]
			keep := append(make([]bool, n), slices.Repeat([]bool{true}, len(extra))...)
			crash(t, x, keep...)
		}
		checkRead(t, d, "", "d")
		checkRead(t, a, "b", "b")
		checkRead(t, b, "c", "c")
	}
}

// TestExamples is the chapter's, and the document's third one.
func TestExamples(t *testing.T) { // P7.3
	d := newDisk(t, 4)
	write(t, d, "3ab")
	crash(t, d)
	checkRead(t, d, "", "", "", "")
	write(t, d, "3ab")
	crash(t, d, true)
	checkRead(t, d, "", "", "", "ab")
}

func TestMemory(t *testing.T) { // R4
	d := newDisk(t, 2)
	room := []byte(strings.Repeat("a", 128))
	checkError(t, "write", d.Write(0, unsafe.String(&room[0], 128)), api.OK)
	clear(room)
	checkRead(t, d, strings.Repeat("a", 128), "")
	one, _ := d.Read(0)
	two, _ := d.Read(0)
	none, _ := d.Read(1)
	again, _ := d.Read(1)
	if unsafe.StringData(one) == unsafe.StringData(two) || unsafe.StringData(none) == unsafe.StringData(again) {
		t.Error("two answers share memory")
	}
	clear(unsafe.Slice(unsafe.StringData(one), 128))
	checkRead(t, d, strings.Repeat("a", 128), "")
	crash(t, d, true)
	checkRead(t, d, strings.Repeat("a", 128), "")
}
