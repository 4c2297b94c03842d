package heap_test

import (
	"maps"
	"slices"
	"strings"
	"testing"

	"memoir/api"
	"memoir/disk"
	"memoir/heap"
	"memoir/pager"
)

// chance is numbers that look mixed, the same ones each time.
type chance uint32

func (c *chance) below(n int) int {
	*c = *c*1664525 + 1013904223
	return int(*c>>8) % n
}

func (c *chance) keep(n int) []bool {
	l := make([]bool, c.below(n+1))
	for i := range l {
		l[i] = c.below(2) == 0
	}
	return l
}

func (c *chance) text() string {
	n := []int{0, 1, 60, 124, 125, 126, 249, 250, 251, 376, 700, 1500}[c.below(12)]
	s := mixed(n + 100)
	from := c.below(100)
	return s[from : from+n]
}

// plain is a heap as the chapter's words tell it: its pages, and which of them are in use.
type plain struct {
	pages []string
	used  []bool
}

func newPlain(pages int) *plain {
	x := &plain{pages: slices.Repeat([]string{full("")}, pages), used: make([]bool, pages)}
	x.used[0], x.used[1] = true, true
	x.pages[1] = full("R")
	return x
}

func (x *plain) copied() *plain {
	return &plain{pages: slices.Clone(x.pages), used: slices.Clone(x.used)}
}

func (x *plain) free() []int {
	var l []int
	for at, used := range x.used {
		if !used {
			l = append(l, at)
		}
	}
	return l
}

func (x *plain) next(at int) int {
	return int(x.pages[at][0])*256 + int(x.pages[at][1])
}

// row is the pages of a record; each but the first one was seen to be one already.
func (x *plain) row(id int) ([]int, api.Errno) {
	there := func(at int) bool { return at >= 2 && at < len(x.pages) && x.used[at] }
	if !there(id) {
		return nil, api.ErrNone
	}
	row := []int{id}
	for {
		at := row[len(row)-1]
		has, next := x.pages[at][2], x.next(at)
		switch {
		case next == 0 && has <= 125:
			return row, api.OK
		case next == 0 || has != 125 || !there(next) || slices.Contains(row, next):
			return nil, api.ErrForm
		}
		row = append(row, next)
	}
}

func (x *plain) put(s string) (int, api.Errno) {
	if len(s) > 100000 {
		return 0, api.ErrBig
	}
	free := x.free()
	need := 1
	for 125*need < len(s) {
		need++
	}
	if need > len(free) {
		return 0, api.ErrFull
	}
	for i := range need {
		next := 0
		if i < need-1 {
			next = free[i+1]
		}
		n := min(len(s), 125)
		x.pages[free[i]] = full(head(next, n) + s[:n])
		x.used[free[i]] = true
		s = s[n:]
	}
	return free[0], api.OK
}

func (x *plain) get(id int) (string, api.Errno) {
	row, e := x.row(id)
	s := ""
	for _, at := range row {
		s += x.pages[at][3 : 3+x.pages[at][2]]
	}
	return s, e
}

func (x *plain) drop(id int) api.Errno {
	row, e := x.row(id)
	for _, at := range row {
		x.used[at] = false
	}
	return e
}

func (x *plain) root() int {
	return int(x.pages[1][1])*256 + int(x.pages[1][2])
}

// setRoot drops the old record as it was ahead of the new one.
func (x *plain) setRoot(s string) api.Errno {
	old, _ := x.row(x.root())
	id, e := x.put(s)
	if e != api.OK {
		return e
	}
	for _, at := range old {
		x.used[at] = false
	}
	x.pages[1] = full("R" + head(id, 0))
	return api.OK
}

func checkPlain(t *testing.T, p *pager.Pager, h *heap.Heap, x *plain) {
	t.Helper()
	for at := range x.pages {
		if s, _ := p.Read(at); at > 0 && s != x.pages[at] {
			t.Fatalf("page %d: %q, not %q", at, s, x.pages[at])
		}
		if p.IsFree(at) == x.used[at] {
			t.Fatalf("page %d: free %v", at, p.IsFree(at))
		}
		want, no := x.get(at)
		if s, e := h.Get(at); s != want || e != no {
			t.Fatalf("get %d: %q, %d, not %q, %d", at, s, e, want, no)
		}
	}
	want, no := x.get(x.root())
	if s, e := h.Root(); s != want || e != no {
		t.Fatalf("root: %q, %d, not %q, %d", s, e, want, no)
	}
}

// forge writes some page as none of Put's, or as another one.
func (c *chance) forge(t *testing.T, p *pager.Pager, x *plain) {
	t.Helper()
	at := 2 + c.below(len(x.pages)-2)
	s := full(head(c.below(len(x.pages)+1), []int{125, 125, 125, 124, 126, 0}[c.below(6)]) + "forged")
	if c.below(2) == 0 {
		s = end("forged")
	}
	checkError(t, "write", p.Write(at, s), api.OK)
	x.pages[at] = s
}

// change is one call that changes something, of both.
func (c *chance) change(t *testing.T, p *pager.Pager, h *heap.Heap, x *plain) {
	t.Helper()
	switch c.below(10) {
	case 0, 1, 2:
		s := c.text()
		id, e := h.Put(s)
		if n, want := x.put(s); id != n || e != want {
			t.Fatal("put", len(s), id, e, "not", n, want)
		}
	case 3, 4:
		s := c.text()
		if e, want := h.SetRoot(s), x.setRoot(s); e != want {
			t.Fatal("set root", len(s), e, "not", want)
		}
	case 5:
		c.forge(t, p, x)
	default:
		id := c.below(len(x.pages)+2) - 1
		if e, want := h.Drop(id), x.drop(id); e != want {
			t.Fatal("drop", id, e, "not", want)
		}
	}
}

// TestLongRows goes through long rows of calls, with commits, what is taken back, and crashes now and then; ids are of all kinds, first pages or not.
func TestLongRows(t *testing.T) { // P10.1 to P10.5
	c := chance(7)
	for range 150 {
		sure := newPlain(3 + c.below(30))
		d, p := newPager(t, len(sure.pages))
		h := open(t, p)
		checkError(t, "commit", p.Commit(), api.OK)
		x := sure.copied()
		for range 100 {
			switch c.below(14) {
			case 0, 1:
				checkError(t, "commit", p.Commit(), api.OK)
				sure = x.copied()
			case 2:
				p.Abort()
				x = sure.copied()
			case 3:
				checkError(t, "crash", d.Crash(c.keep(len(d.Dirty()))), api.OK)
				p = openPager(t, d)
				h = open(t, p)
				x = sure.copied()
			default:
				c.change(t, p, h, x)
			}
			checkPlain(t, p, h, x)
		}
	}
}

// records is what was put, and not dropped, by ids; the root's by 0.
type records map[int]string

func (r records) check(t *testing.T, p *pager.Pager, h *heap.Heap) {
	t.Helper()
	used := 2
	for id, want := range r {
		used += h.Need(len(want))
		if id == 0 {
			checkRoot(t, h, want)
			continue
		}
		checkGet(t, h, id, want)
	}
	if p.Frees() != p.Len()-used {
		t.Errorf("%d of %d are free, %d in use", p.Frees(), p.Len(), used)
	}
	if _, ok := r[0]; !ok {
		checkNoRoot(t, h, api.ErrNone)
	}
	if t.Failed() {
		t.Fatal(len(r), "records")
	}
}

// change puts, or drops, or makes a root.
func (r records) change(t *testing.T, c *chance, h *heap.Heap) {
	t.Helper()
	s := c.text()
	switch c.below(4) {
	case 0:
		if h.SetRoot(s) == api.OK {
			r[0] = s
		}
	case 1, 2:
		if id, e := h.Put(s); e == api.OK {
			if _, ok := r[id]; ok || id < 2 {
				t.Fatal(id, "is told twice, or is no record's")
			}
			r[id] = s
		}
	default:
		ids := slices.Sorted(maps.Keys(r))
		if len(ids) == 0 {
			return
		}
		if id := ids[c.below(len(ids))]; id != 0 {
			checkError(t, "drop", h.Drop(id), api.OK)
			delete(r, id)
		}
	}
}

// TestLaws puts and drops whole records, and cuts commits off: what was put is got, and no page is lost.
func TestLaws(t *testing.T) { // P10.5
	c := chance(9)
	cut, behind := 0, 0
	for range 150 {
		d, p := newPager(t, 10+c.below(34))
		h := open(t, p)
		checkError(t, "commit", p.Commit(), api.OK)
		sure, now := records{}, records{}
		for range 60 {
			if c.below(5) > 0 {
				now.change(t, &c, h)
				now.check(t, p, h)
				continue
			}
			if c.below(2) == 0 {
				d.Fuse(c.below(60))
			}
			before := pagesOf(t, p)
			if e := p.Commit(); e != api.OK {
				cut++
				p, h = again(t, &c, d)
				if !slices.Equal(pagesOf(t, p), before) {
					now = maps.Clone(sure)
				} else if !maps.Equal(sure, now) {
					behind++
				}
			}
			now.check(t, p, h)
			sure = maps.Clone(now)
		}
		p, h = again(t, &c, d)
		sure.check(t, p, h)
	}
	if cut < 100 || behind < 20 || cut-behind < 20 {
		t.Error("too few of each kind:", cut, behind)
	}
}

// again is the heap behind a crash.
func again(t *testing.T, c *chance, d *disk.Disk) (*pager.Pager, *heap.Heap) {
	t.Helper()
	checkError(t, "crash", d.Crash(c.keep(len(d.Dirty()))), api.OK)
	p := openPager(t, d)
	return p, open(t, p)
}

// TestOneAnswer does the same row of calls twice.
func TestOneAnswer(t *testing.T) { // R5
	var told []string
	for range 2 {
		c := chance(3)
		p, h := start(t, 40)
		r := records{}
		for range 200 {
			r.change(t, &c, h)
		}
		told = append(told, strings.Join(pagesOf(t, p), ""))
	}
	if told[0] != told[1] {
		t.Error("the pages are not the same")
	}
}
