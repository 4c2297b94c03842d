package pager_test

import (
	"slices"
	"strings"
	"testing"

	"memoir/api"
	"memoir/disk"
	"memoir/pager"
)

// chance is numbers that look mixed, the same ones each time.
type chance uint32

func (c *chance) below(n int) int {
	*c = *c*1664525 + 1013904223
	return int(*c>>8) % n
}

func (c *chance) keep(n int) []bool {
	l := make([]bool, c.below(n+1))
	for i := range l {
		l[i] = c.below(2) == 0
	}
	return l
}

func (c *chance) text() string {
	return strings.Repeat(string([]byte{byte(c.below(5))}), []int{0, 1, 60, 127, 128, 129}[c.below(6)])
}

// plain is a pager as the chapter's words tell it: what its pages have, and become.
type plain struct {
	pages  []string
	become map[int]string
}

func newPlain(pages int) *plain {
	return &plain{pages: slices.Repeat([]string{full("")}, pages), become: map[int]string{}}
}

func (x *plain) read(page int) string {
	if s, ok := x.become[page]; ok {
		return s
	}
	return x.pages[page]
}

// later is the pages as they are behind a commit.
func (x *plain) later() []string {
	l := slices.Clone(x.pages)
	for page, s := range x.become {
		l[page] = s
	}
	return l
}

func (x *plain) used(page int) bool {
	return page == 0 || x.read(0)[page/8]&(1<<(page%8)) != 0
}

func (x *plain) turn(page int) {
	m := []byte(x.read(0))
	m[page/8] ^= 1 << (page % 8)
	x.become[0] = string(m)
}

func (x *plain) write(page int, s string) api.Errno {
	switch {
	case page < 0 || page >= len(x.pages):
		return api.ErrRange
	case page == 0:
		return api.ErrArg
	case len(s) > 128:
		return api.ErrBig
	}
	x.become[page] = full(s)
	return api.OK
}

func (x *plain) alloc() (int, api.Errno) {
	for page := range x.pages {
		if !x.used(page) {
			x.turn(page)
			x.become[page] = full("")
			return page, api.OK
		}
	}
	return 0, api.ErrFull
}

func (x *plain) free(page int) api.Errno {
	switch {
	case page < 0 || page >= len(x.pages):
		return api.ErrRange
	case page == 0:
		return api.ErrArg
	case !x.used(page):
		return api.ErrState
	}
	x.turn(page)
	return api.OK
}

// record is how many bytes a commit's record has.
func (x *plain) record() int {
	var l []laid
	for page, s := range x.become {
		l = append(l, laid{page, strings.TrimRight(s, "\x00")})
	}
	return len(bytesOf(l...))
}

func checkPlain(t *testing.T, p *pager.Pager, x *plain) {
	t.Helper()
	frees := 0
	var dirty []int
	for page := range x.pages {
		if s, e := p.Read(page); s != x.read(page) || e != api.OK {
			t.Fatalf("page %d: %q, %d, not %q", page, s, e, x.read(page))
		}
		if p.IsFree(page) == x.used(page) {
			t.Fatalf("page %d: free %v", page, p.IsFree(page))
		}
		if !x.used(page) {
			frees++
		}
		if _, ok := x.become[page]; ok {
			dirty = append(dirty, page)
		}
	}
	if l := p.Dirty(); !slices.Equal(l, dirty) || p.Frees() != frees || p.Len() != len(x.pages) {
		t.Fatalf("dirty %v, %d of %d free, not %v, %d of %d", l, p.Frees(), p.Len(), dirty, frees, len(x.pages))
	}
}

// change is one call that changes pages, of both.
func (c *chance) change(t *testing.T, p *pager.Pager, x *plain) {
	t.Helper()
	page := c.below(len(x.pages)+2) - 1
	switch c.below(8) {
	case 0, 1:
		n, e := p.Alloc()
		if m, want := x.alloc(); n != m || e != want {
			t.Fatal("alloc", n, e, "not", m, want)
		}
	case 2:
		if e, want := p.Free(page), x.free(page); e != want {
			t.Fatal("free", page, e, "not", want)
		}
	default:
		s := c.text()
		if e, want := p.Write(page, s), x.write(page, s); e != want {
			t.Fatal("write", page, len(s), e, "not", want)
		}
	}
}

// pagesOf is all pages, as a pager tells them.
func pagesOf(t *testing.T, p *pager.Pager) []string {
	t.Helper()
	var l []string
	for page := range p.Len() {
		s, e := p.Read(page)
		checkError(t, "read", e, api.OK)
		l = append(l, s)
	}
	return l
}

// TestLongRows goes through long rows of calls, with the fuse and crashes now and then: behind them all pages are as before the commit that was cut off, or as behind it.
func TestLongRows(t *testing.T) { // P9.1 to P9.5
	c := chance(7)
	cut, behind, fulls := 0, 0, 0
	for range 200 {
		x := newPlain(1 + c.below(40))
		d, p := newPager(t, len(x.pages))
		seldom := 8 + c.below(120) // the greater, the more is changed by one commit
		for range 300 {
			switch c.below(seldom) {
			case 0:
				p.Abort()
				x.become = map[int]string{}
			case 1, 2, 3:
				if c.below(3) == 0 {
					d.Fuse(c.below(20))
				}
				e := p.Commit()
				if x.record() > 100*(logs-2) {
					checkError(t, "too much", e, api.ErrFull)
					fulls++
					break
				}
				now, later := x.pages, x.later()
				if e != api.OK {
					cut++
					crash(t, d, c.keep(len(d.Dirty()))...)
					p = open(t, d)
					if got := pagesOf(t, p); !slices.Equal(got, later) {
						later = now
					} else if !slices.Equal(now, later) {
						behind++
					}
				}
				x = &plain{pages: later, become: map[int]string{}}
			case 4: // another life: what is not committed is gone
				crash(t, d, c.keep(len(d.Dirty()))...)
				p = open(t, d)
				x.become = map[int]string{}
			default:
				c.change(t, p, x)
			}
			checkPlain(t, p, x)
		}
	}
	if cut < 100 || behind < 30 || cut-behind < 30 || fulls < 20 {
		t.Error("too few of each kind:", cut, behind, fulls)
	}
}

// base is a disk with pages, whose log has old places.
func base(t *testing.T) *disk.Disk {
	t.Helper()
	d, p := newPager(t, 6)
	for range 4 {
		p.Alloc()
	}
	for page := 1; page < 5; page++ {
		write(t, p, page, strings.Repeat(uvarint(page), 128))
	}
	commit(t, p)
	write(t, p, 2, "old")
	commit(t, p)
	crash(t, d)
	return d
}

// eachCut does something with the fuse at each place, up to where it is whole, and ends with each choice of the writes that stay.
func eachCut(t *testing.T, d *disk.Disk, do func(d *disk.Disk, burn func()) bool, then func(d *disk.Disk, whole bool)) {
	t.Helper()
	for n := 0; ; n++ {
		c := d.Copy()
		whole := do(c, func() { c.Fuse(n) })
		for choice := range 1 << len(c.Dirty()) {
			keep := make([]bool, len(c.Dirty()))
			for i := range keep {
				keep[i] = choice>>i&1 == 1
			}
			end := c.Copy()
			crash(t, end, keep...)
			then(end, whole)
		}
		if whole {
			return
		}
	}
}

// opens is an Open that is cut off.
func opens(d *disk.Disk, burn func()) bool {
	burn()
	_, e := pager.Open(d, logs)
	return e == api.OK
}

// TestEachCrash cuts a commit off at each place, with each choice of the writes that stay; Open behind it too, twice.
func TestEachCrash(t *testing.T) { // P9.5
	d := base(t)
	before := pagesOf(t, open(t, d.Copy()))
	change := func(p *pager.Pager) {
		p.Alloc()
		p.Free(4)
		write(t, p, 2, mixed(128))
		write(t, p, 3, "")
	}
	x := open(t, d.Copy())
	change(x)
	behind := pagesOf(t, x)
	commits := func(d *disk.Disk, burn func()) bool {
		p := open(t, d)
		change(p)
		burn()
		return p.Commit() == api.OK
	}
	told := map[bool]int{}
	eachCut(t, d, commits, func(d *disk.Disk, whole bool) {
		want := pagesOf(t, open(t, d.Copy()))
		if !slices.Equal(want, behind) && (whole || !slices.Equal(want, before)) {
			t.Fatalf("%.20q", want)
		}
		told[slices.Equal(want, behind)]++
		eachCut(t, d, opens, func(d *disk.Disk, whole bool) {
			checkSame(t, d, want)
			eachCut(t, d, opens, func(d *disk.Disk, whole bool) { checkSame(t, d, want) })
		})
	})
	if told[false] < 2 || told[true] < 10 {
		t.Error(told)
	}
}

// checkSame sees that a disk opens to these pages, all of them sure, and can be gone on with.
func checkSame(t *testing.T, d *disk.Disk, want []string) {
	t.Helper()
	d = d.Copy()
	p := open(t, d)
	if got := pagesOf(t, p); !slices.Equal(got, want) {
		t.Fatalf("%.20q, not %.20q", got, want)
	}
	crash(t, d)
	for page, s := range want {
		if got, _ := d.Read(logs + page); got != s {
			t.Fatalf("page %d: %q is sure, not %q", page, got, s)
		}
	}
	checkRecords(t, d)
	write(t, p, 1, "next")
	commit(t, p)
	crash(t, d)
	next := slices.Clone(want)
	next[1] = full("next")
	if got := pagesOf(t, open(t, d)); !slices.Equal(got, next) {
		t.Fatalf("%.20q, not %.20q", got, next)
	}
}

// TestCrashesInARow has commits that are cut off, one behind the other, each with a crash, and Opens that are cut off between.
func TestCrashesInARow(t *testing.T) { // P9.5
	c := chance(8)
	for range 200 {
		d := base(t)
		now := pagesOf(t, open(t, d.Copy()))
		for i := range 15 {
			p := open(t, d)
			write(t, p, 1, strings.Repeat(uvarint(i), 100))
			write(t, p, 4, strings.Repeat(uvarint(i+1), 100))
			write(t, p, 5, strings.Repeat(uvarint(i+2), c.below(128)))
			later := pagesOf(t, p)
			d.Fuse(c.below(10))
			e := p.Commit()
			for range c.below(4) {
				crash(t, d, c.keep(len(d.Dirty()))...)
				d.Fuse(c.below(9))
				pager.Open(d, logs)
			}
			crash(t, d, c.keep(len(d.Dirty()))...)
			got := pagesOf(t, open(t, d.Copy()))
			if !slices.Equal(got, later) && (e == api.OK || !slices.Equal(got, now)) {
				t.Fatalf("%.20q, not %.20q or %.20q (told %d)", got, now, later, e)
			}
			now = got
		}
	}
}

// TestWithoutCrash opens a second pager, though there was no crash, only an error.
func TestWithoutCrash(t *testing.T) { // P9.1, P9.5
	for n := range 9 {
		d, p := newPager(t, 4)
		write(t, p, 1, "a")
		write(t, p, 2, mixed(128))
		d.Fuse(n)
		p.Commit()
		d.Fuse(1000)
		want := []string{"", "a", mixed(128), ""}
		if n < 2 { // the record is not whole
			want = make([]string, 4)
		}
		checkPages(t, open(t, d), want...)
	}
}
