package pager_test

import (
	"slices"
	"strings"
	"testing"

	"memoir/api"
	"memoir/disk"
	"memoir/pager"
	"memoir/wal"
)

// uvarint is a Uint's bytes, as the tests themselves write it.
func uvarint(n int) string {
	if n < 128 {
		return string([]byte{byte(n)})
	}
	return string([]byte{byte(n)&127 | 128}) + uvarint(n>>7)
}

// laid is a page, and what it becomes.
type laid struct {
	page int
	text string
}

// bytesOf is these pages' record, as they stand.
func bytesOf(l ...laid) string {
	s := uvarint(len(l))
	for _, x := range l {
		s += uvarint(x.page) + uvarint(len(x.text)) + x.text
	}
	return s
}

// layRecords has a disk whose log has these records, sure; its pages are as they were.
func layRecords(t *testing.T, d *disk.Disk, records ...string) {
	t.Helper()
	l := openLog(t, d)
	for _, s := range records {
		checkError(t, "append", l.Append(s), api.OK)
	}
	checkError(t, "commit", l.Commit(), api.OK)
}

func checkRecords(t *testing.T, d *disk.Disk, records ...string) {
	t.Helper()
	d = d.Copy()
	d.Fuse(1000)
	if r := openLog(t, d).Records(); !slices.Equal(r, records) {
		t.Errorf("records %.80q, not %.80q", r, records)
	}
}

// change makes five changes: pages 0, 1, 2, 5 and 130 are changed then.
func change(t *testing.T, p *pager.Pager) []laid {
	t.Helper()
	p.Alloc()
	p.Alloc()
	write(t, p, 130, mixed(128))
	write(t, p, 1, "one\x00more\x00\x00")
	write(t, p, 5, "")
	return []laid{{0, "\x06"}, {1, "one\x00more"}, {2, ""}, {5, ""}, {130, strings.TrimRight(mixed(128), "\x00")}}
}

// TestCommitSteps burns the fuse at each place: what a commit writes, and flushes, is this and no more, in this order.
func TestCommitSteps(t *testing.T) { // P9.4
	d, _ := newPager(t, 140)
	d.Write(logs+5, "old")
	d.Flush()
	parts := (len(bytesOf(change(t, open(t, d.Copy()))...)) + 99) / 100
	steps := slices.Repeat([]int{-2}, parts)                                      // a place of the log
	steps = append(steps, -1, logs, logs+1, logs+2, logs+5, logs+130, -1, -3, -1) // -1: a flush; -3: a slot
	for n := range len(steps) + 2 {
		c := d.Copy()
		p := open(t, c)
		want := change(t, p)
		writes, flushes := c.Count()
		c.Fuse(n)
		e := p.Commit()
		done := min(n, len(steps))
		if (e == api.OK) != (n >= len(steps)) || e != api.OK && e != api.ErrState {
			t.Errorf("%d: %d", n, e)
		}
		checkSteps(t, c, steps[:done], writes, flushes)
		if n > parts && n < len(steps)-1 {
			checkRecords(t, c, bytesOf(want...))
		}
		if e != api.OK {
			continue
		}
		checkDirty(t, p)
		checkRecords(t, c)
		crash(t, c)
		checkSectors(t, c, "\x06", want[1].text, "", "", "", "")
		checkPages(t, open(t, c), "\x06", want[1].text, "", "", "", "")
		if s, _ := p.Read(130); s != mixed(128) {
			t.Errorf("%q", s)
		}
	}
}

// checkSteps sees that a disk has done these steps behind so many writes and flushes, by their number, and by what is not flushed.
func checkSteps(t *testing.T, d *disk.Disk, steps []int, writes, flushes int) {
	t.Helper()
	var loose []int
	for i, s := range steps {
		switch s {
		case -1:
			flushes++
			loose = nil
			continue
		case -2:
			s = 2 + i
		}
		loose = append(loose, s)
		writes++
	}
	checkCount(t, d, writes, flushes)
	dirty := d.Dirty()
	for i, at := range dirty {
		if at < 2 { // which slot it is, is the log's own thing
			dirty[i] = -3
		}
	}
	if !slices.Equal(dirty, loose) {
		t.Errorf("not flushed: %v, not %v", dirty, loose)
	}
}

// TestRecord has records of changes of each kind.
func TestRecord(t *testing.T) { // P9.4
	for _, want := range [][]laid{
		{{1, ""}}, {{1, "a"}}, {{1, "\x00a"}}, {{1, "a\x00b"}}, {{1, strings.Repeat("\xff", 128)}}, {{139, "z"}},
		{{1, ""}, {2, ""}, {3, ""}}, {{9, "nine"}, {127, "a"}, {128, "b"}, {129, "c"}}, {{1, strings.Repeat("\x00", 127) + "a"}, {2, strings.Repeat("a", 127)}},
	} {
		d, p := newPager(t, 140)
		for _, x := range slices.Backward(want) {
			write(t, p, x.page, x.text+strings.Repeat("\x00", (128-len(x.text))/2))
		}
		record := bytesOf(want...)
		d.Fuse((len(record)+99)/100 + 1)
		checkError(t, "cut", p.Commit(), api.ErrState)
		crash(t, d)
		checkRecords(t, d, record)
	}
}

// TestCommitNothing: it writes nothing, be the disk's fuse burnt.
func TestCommitNothing(t *testing.T) { // P9.4
	d, p := newPager(t, 5)
	d.Fuse(0)
	commit(t, p)
	write(t, p, 1, "a")
	p.Abort()
	commit(t, p)
	checkCount(t, d, 1, 1)
	crash(t, d)
	write(t, p, 1, "a")
	commit(t, p)
	writes, flushes := d.Count()
	commit(t, p)
	checkCount(t, d, writes, flushes)
}

// TestFull has records that take all of the log, and one byte more.
func TestFull(t *testing.T) { // P9.4
	for n := 4; n < 30; n++ {
		for over := range 3 {
			room := 100*(n-2) + over
			d := newDisk(t, n+200)
			p, _ := pager.Open(d, n)
			l := fill(t, p, room)
			if len(bytesOf(l...)) != room {
				t.Fatal(room, l)
			}
			if over == 0 {
				commit(t, p)
				checkDirty(t, p)
				crash(t, d)
				for _, x := range l {
					if s, _ := d.Read(n + x.page); s != full(x.text) {
						t.Errorf("%q, not %q", s, x.text)
					}
				}
				continue
			}
			dirty := p.Dirty()
			for range 2 {
				checkError(t, "too much", p.Commit(), api.ErrFull)
				checkCount(t, d, 1, 1)
				checkDirty(t, p, dirty...)
			}
			for _, x := range l {
				if s, e := p.Read(x.page); s != full(x.text) || e != api.OK {
					t.Errorf("%q, %d, not %q", s, e, x.text)
				}
			}
			d.Fuse(0)
			checkError(t, "too much, and burnt", p.Commit(), api.ErrFull) // that does not halt it
			crash(t, d)
			write(t, p, l[0].page, l[0].text[over:])
			commit(t, p)
			checkDirty(t, p)
		}
	}
}

// fill changes pages till their record has just so many bytes.
func fill(t *testing.T, p *pager.Pager, room int) []laid {
	t.Helper()
	var l []laid
	for left := room - 1; left > 0; {
		n := min(left-2, 120)
		if left-2-n == 1 || left-2-n == 2 { // no page has so few bytes
			n -= 5
		}
		l = append(l, laid{1 + len(l), strings.Repeat("x", n)})
		write(t, p, len(l), l[len(l)-1].text)
		left -= 2 + n
	}
	return l
}

// TestGreatestRecord changes as many pages as there are, in a log of the greatest size.
func TestGreatestRecord(t *testing.T) { // P9.4, P9.5
	d := newDisk(t, 2024)
	p, e := pager.Open(d, 1000)
	checkError(t, "open", e, api.OK)
	for page := 1; page < 1024; page++ {
		p.Alloc()
		write(t, p, page, strings.Repeat("y", 90)+uvarint(page))
	}
	d.Fuse(998 + 500)
	checkError(t, "cut", p.Commit(), api.ErrState)
	crash(t, d, slices.Repeat([]bool{true, false}, len(d.Dirty())/2)...)
	p, e = pager.Open(d, 1000)
	checkError(t, "open", e, api.OK)
	for page := 1; page < 1024; page++ {
		if s, _ := p.Read(page); s != full(strings.Repeat("y", 90)+uvarint(page)) {
			t.Fatalf("page %d: %q", page, s)
		}
	}
	if p.Frees() != 0 {
		t.Error(p.Frees())
	}
	for page := 1; page < 1024; page++ {
		write(t, p, page, strings.Repeat("y", 128))
	}
	checkError(t, "too much", p.Commit(), api.ErrFull)
}

// TestHalted burns the fuse at each place of a commit: then the pager takes none any more, be the disk whole again.
func TestHalted(t *testing.T) { // P9.4, R2
	for n := range 9 {
		for _, anew := range []bool{false, true} {
			d, p := newPager(t, 4)
			write(t, p, 1, "a")
			write(t, p, 2, mixed(128))
			d.Fuse(n)
			if e := p.Commit(); (e == api.OK) != (n == 8) {
				t.Error(n, e)
			}
			if n == 8 {
				continue
			}
			if anew {
				d.Fuse(1000)
			} else {
				crash(t, d)
			}
			writes, flushes := d.Count()
			checkError(t, "halted", p.Commit(), api.ErrState)
			checkDirty(t, p, 1, 2)
			for page := range 4 {
				if s, e := p.Read(page); len(s) != 128 || e != api.OK { // it still reads
					t.Errorf("%q, %d", s, e)
				}
			}
			p.Abort()
			checkDirty(t, p)
			checkError(t, "halted, and nothing is changed", p.Commit(), api.ErrState)
			for page := 1; page < 4; page++ {
				p.Write(page, mixed(128))
			}
			checkError(t, "halted", p.Commit(), api.ErrState)
			checkCount(t, d, writes, flushes)
		}
	}
}

// TestHaltedAndFull: that it is halted is told first.
func TestHaltedAndFull(t *testing.T) { // P9.4, R2
	d := newDisk(t, 20)
	p, _ := pager.Open(d, 4)
	write(t, p, 1, "a")
	d.Fuse(0)
	checkError(t, "cut", p.Commit(), api.ErrState)
	crash(t, d)
	for page := 1; page < 16; page++ {
		write(t, p, page, mixed(128))
	}
	checkError(t, "halted", p.Commit(), api.ErrState)
}

// TestErrorIsTheDisks has a disk that is none any more: that, too, is told, and halts the pager.
func TestErrorIsTheDisks(t *testing.T) { // P9.4
	d, p := newPager(t, 4)
	write(t, p, 1, "a")
	saved := *d
	*d = disk.Disk{}
	checkError(t, "gone", p.Commit(), api.ErrNil)
	*d = saved
	checkError(t, "halted", p.Commit(), api.ErrState)
	checkDirty(t, p, 1)
}

// TestOpenWithRecord opens a disk whose log has a commit's record: its pages are laid, and the log is reset.
func TestOpenWithRecord(t *testing.T) { // P9.1
	d := newDisk(t, logs+4)
	for page := range 4 {
		d.Write(logs+page, mixed(128))
	}
	layRecords(t, d, bytesOf(laid{0, "\x0a"}, laid{1, "one"}, laid{3, ""}))
	writes, flushes := d.Count()
	p := open(t, d)
	checkCount(t, d, writes+1+3+1, flushes+1+1+1)
	if dirty := d.Dirty(); len(dirty) != 0 {
		t.Error(dirty)
	}
	checkDirty(t, p)
	checkRecords(t, d)
	crash(t, d)
	checkSectors(t, d, "\x0a", "one", mixed(128), "")
	checkPages(t, p, "\x0a", "one", mixed(128), "")
	checkFree(t, p, 2)
	checkPages(t, open(t, d), "\x0a", "one", mixed(128), "")
}

// TestOpenSteps cuts Open off at each place.
func TestOpenSteps(t *testing.T) { // P9.1
	d := newDisk(t, logs+4)
	layRecords(t, d, bytesOf(laid{0, "\x0a"}, laid{1, "one"}, laid{3, "three"}), bytesOf(laid{1, "uno"}), "none")
	steps := []int{-3, -1, logs, logs + 1, logs + 3, logs + 1, -1, -3, -1}
	for n := range len(steps) + 2 {
		c := d.Copy()
		writes, flushes := c.Count()
		c.Fuse(n)
		p, e := pager.Open(c, logs)
		if n >= len(steps) {
			checkError(t, "open", e, api.OK)
			checkPages(t, p, "\x0a", "uno", "", "three")
		} else if p != nil || e != api.ErrState {
			t.Error(n, p, e)
		}
		checkSteps(t, c, steps[:min(n, len(steps))], writes, flushes)
	}
}

func TestOpenWithRecords(t *testing.T) { // P9.1: in order
	d := newDisk(t, logs+4)
	layRecords(t, d, bytesOf(laid{1, "a"}, laid{2, "b"}), bytesOf(laid{2, "c"}), bytesOf(laid{2, "d"}, laid{3, "e"}), bytesOf(laid{3, "f"}))
	checkPages(t, open(t, d), "", "a", "d", "f")
	checkRecords(t, d)
}

// TestOpenLooseRecord: a record that is in the disk's cache alone is sure ahead of its pages.
func TestOpenLooseRecord(t *testing.T) { // P9.1, P9.5
	d := newDisk(t, logs+4)
	l := openLog(t, d)
	checkError(t, "append", l.Append(bytesOf(laid{1, "a"}, laid{2, "b"})), api.OK)
	d.Fuse(3)
	if p, e := pager.Open(d, logs); p != nil || e != api.ErrState {
		t.Error(p, e)
	}
	checkSectors(t, d, "", "a", "", "")
	crash(t, d)
	checkSectors(t, d, "", "", "", "")
	checkPages(t, open(t, d), "", "a", "b", "")
}

// TestOtherRecords has records that are no commit's: they lay nothing, those beside them do, and the log is reset.
func TestOtherRecords(t *testing.T) { // P9.1
	nines := "\xff\xff\xff\xff\xff\xff\xff\xff\xff"
	for _, s := range []string{
		"", "\x00", "\x00\x00", "a", "\x80", "\xff", mixed(200), strings.Repeat("\x00", 300), strings.Repeat("\x01", 300), // none at all
		bytesOf(laid{1, "x"}) + "\x00", bytesOf(laid{1, "x"}) + "a", bytesOf(laid{1, "x"}) + "\x02\x01x", bytesOf(laid{1, "x"}) + bytesOf(laid{1, "x"}), // more behind
		"\x01", "\x01\x01", "\x01\x01\x01", "\x01\x01\x02x", "\x02\x01\x01x", "\x02\x01\x01x\x02", "\x02\x01\x01x\x02\x01", "\x03\x01\x01x\x02\x01x", "\x02\x01\x01x", // cut off
		bytesOf(laid{2, "x"}, laid{1, "x"}), bytesOf(laid{1, "x"}, laid{1, "x"}), bytesOf(laid{1, "x"}, laid{1, "y"}), bytesOf(laid{1, "x"}, laid{3, "x"}, laid{2, "x"}), // not rising
		bytesOf(laid{4, "x"}), bytesOf(laid{1, "x"}, laid{4, "x"}), bytesOf(laid{1, "x"}, laid{1023, "x"}), bytesOf(laid{1, "x"}, laid{1024, ""}), bytesOf(laid{1, "x"}, laid{1<<32 + 2, "x"}), // no such page
		"\x01" + nines + "\x01\x01x", "\x02\x01\x01x" + nines + "\x01\x01x", "\x01\x80\x80\x80\x80\x80\x80\x80\x80\x80\x01\x01x", "\x02\x01\x01x\x80\x80\x80\x80\x80\x80\x80\x80\x80\x01\x01x",
		bytesOf(laid{1, mixed(129)}), bytesOf(laid{1, "x"}, laid{2, strings.Repeat("x", 129)}), bytesOf(laid{1, "x"}, laid{2, mixed(500)}), // longer than a page
		bytesOf(laid{1, "x\x00"}), bytesOf(laid{1, "\x00"}), bytesOf(laid{1, "x"}, laid{2, strings.Repeat("\x00", 128)}), bytesOf(laid{1, "x\x00"}, laid{2, "x"}), bytesOf(laid{0, "x\x00"}), // ends of bytes 0
		"\x81\x00\x01\x01x", "\x01\x81\x00\x01x", "\x01\x01\x81\x00x", "\x82\x00\x01\x01x\x02\x01x", "\x02\x01\x01x\x82\x00\x01x", // not as few bytes as can be
		nines + "\x01", nines + "\x01\x01\x01x", nines + "\x02\x01\x01x", "\x81\x80\x80\x80\x80\x80\x80\x80\x80\x01\x01\x01x", // no such number of pages
	} {
		before := []string{"map", "one", "two", "three"}
		d := newDisk(t, logs+4)
		for page, text := range before {
			d.Write(logs+page, text)
		}
		c, ahead, behind := d.Copy(), d.Copy(), d.Copy()
		layRecords(t, c, s)
		writes, flushes := c.Count()
		checkPages(t, open(t, c), before...)
		checkRecords(t, c)
		checkCount(t, c, writes+2, flushes+3)
		layRecords(t, ahead, s, bytesOf(laid{2, "a"}))
		checkPages(t, open(t, ahead), "map", "one", "a", "three")
		layRecords(t, behind, bytesOf(laid{1, "b"}), s, bytesOf(laid{2, "a"}))
		checkPages(t, open(t, behind), "map", "b", "a", "three")
		checkRecords(t, behind)
		if t.Failed() {
			t.Fatalf("%.80q", s)
		}
	}
}

// TestEachPageOfRecord: a record's pages are those that there are, and no more.
func TestEachPageOfRecord(t *testing.T) { // P9.1
	for pages := 1; pages < 6; pages++ {
		for page := range 8 {
			d := newDisk(t, logs+pages)
			layRecords(t, d, bytesOf(laid{page, "x"}))
			p := open(t, d)
			want := make([]string, pages)
			if page < pages {
				want[page] = "x"
			}
			checkPages(t, p, want...)
		}
	}
}

// TestLogSize: the log has just the sectors that Open is told.
func TestLogSize(t *testing.T) { // P9.1
	d := newDisk(t, 30)
	p, _ := pager.Open(d, 9)
	write(t, p, 1, mixed(128))
	write(t, p, 2, mixed(128))
	d.Fuse(4)
	checkError(t, "cut", p.Commit(), api.ErrState)
	crash(t, d)
	l, e := wal.Open(d.Copy(), 0, 9)
	if e != api.OK || len(l.Records()) != 1 || l.Gen() != 2 {
		t.Error(e, l.Records(), l.Gen())
	}
	p, _ = pager.Open(d, 9)
	checkPages(t, p, "", mixed(128), mixed(128))
}
