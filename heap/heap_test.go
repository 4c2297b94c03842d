package heap_test

import (
	"math"
	"slices"
	"strings"
	"testing"
	"unsafe"

	"memoir/api"
	"memoir/disk"
	"memoir/heap"
	"memoir/pager"
)

// logs is how many sectors the tests' logs have.
const logs = 60

// full is a page that begins with s.
func full(s string) string { return s + strings.Repeat("\x00", 128-len(s)) }

// mixed is n bytes of all kinds, the same ones each time.
func mixed(n int) string {
	l := make([]byte, n)
	c := chance(n)
	for i := range l {
		l[i] = byte(c.below(256))
	}
	return string(l)
}

// head is the first bytes of a record's page, as the tests themselves write them.
func head(next, n int) string {
	return string([]byte{byte(next / 256), byte(next % 256), byte(n)})
}

// link is a whole page that has 125 bytes, all of them b.
func link(next int, b string) string { return head(next, 125) + strings.Repeat(b, 125) }

// end is a last page with these bytes.
func end(s string) string { return full(head(0, len(s)) + s) }

func newPager(t *testing.T, pages int) (*disk.Disk, *pager.Pager) {
	t.Helper()
	d, e := disk.New(logs + pages)
	if e != api.OK {
		t.Fatalf("%d sectors: error %d", logs+pages, e)
	}
	return d, openPager(t, d)
}

func openPager(t *testing.T, d *disk.Disk) *pager.Pager {
	t.Helper()
	p, e := pager.Open(d, logs)
	if p == nil || e != api.OK {
		t.Fatalf("pager: error %d", e)
	}
	return p
}

func open(t *testing.T, p *pager.Pager) *heap.Heap {
	t.Helper()
	h, e := heap.Open(p)
	if h == nil || e != api.OK {
		t.Fatalf("open: error %d", e)
	}
	return h
}

// start is a heap whose root page is sure.
func start(t *testing.T, pages int) (*pager.Pager, *heap.Heap) {
	t.Helper()
	_, p := newPager(t, pages)
	h := open(t, p)
	checkError(t, "commit", p.Commit(), api.OK)
	return p, h
}

func checkError(t *testing.T, what string, got, want api.Errno) {
	t.Helper()
	if got != want {
		t.Errorf("%s: %d, not %d", what, got, want)
	}
}

func put(t *testing.T, h *heap.Heap, s string, id int) {
	t.Helper()
	if n, e := h.Put(s); n != id || e != api.OK {
		t.Fatalf("put of %d bytes: %d, %d, not %d", len(s), n, e, id)
	}
}

func setRoot(t *testing.T, h *heap.Heap, s string) {
	t.Helper()
	checkError(t, "set root", h.SetRoot(s), api.OK)
}

func checkGet(t *testing.T, h *heap.Heap, id int, want string) {
	t.Helper()
	if s, e := h.Get(id); s != want || e != api.OK {
		t.Errorf("get %d: %q, %d, not %q", id, s, e, want)
	}
}

func checkRoot(t *testing.T, h *heap.Heap, want string) {
	t.Helper()
	if s, e := h.Root(); s != want || e != api.OK {
		t.Errorf("root: %q, %d, not %q", s, e, want)
	}
}

// checkNoRoot sees that Root has this error.
func checkNoRoot(t *testing.T, h *heap.Heap, want api.Errno) {
	t.Helper()
	if s, e := h.Root(); s != "" || e != want {
		t.Errorf("root: %q, %d, not %d", s, e, want)
	}
}

// checkPage sees what all of a page is.
func checkPage(t *testing.T, p *pager.Pager, at int, want string) {
	t.Helper()
	if s, e := p.Read(at); s != want || e != api.OK {
		t.Errorf("page %d: %q, %d, not %q", at, s, e, want)
	}
}

func checkFree(t *testing.T, p *pager.Pager, want ...int) {
	t.Helper()
	var free []int
	for at := range p.Len() {
		if p.IsFree(at) {
			free = append(free, at)
		}
	}
	if !slices.Equal(free, want) {
		t.Errorf("free: %v, not %v", free, want)
	}
}

func checkDirty(t *testing.T, p *pager.Pager, want ...int) {
	t.Helper()
	if l := p.Dirty(); !slices.Equal(l, want) {
		t.Errorf("dirty: %v, not %v", l, want)
	}
}

// pagesOf is all pages, as a pager tells them.
func pagesOf(t *testing.T, p *pager.Pager) []string {
	t.Helper()
	var l []string
	for at := range p.Len() {
		s, e := p.Read(at)
		checkError(t, "read", e, api.OK)
		l = append(l, s)
	}
	return l
}

// checkStays sees that what is done leaves all pages, and what is changed of them, as they are.
func checkStays(t *testing.T, p *pager.Pager, do func()) {
	t.Helper()
	pages, dirty := pagesOf(t, p), p.Dirty()
	do()
	if !slices.Equal(pagesOf(t, p), pages) {
		t.Error("pages are changed")
	}
	checkDirty(t, p, dirty...)
}

func TestOpenArguments(t *testing.T) { // P10.1
	_, p := newPager(t, 20)
	copied := *p
	for i, none := range []*pager.Pager{nil, {}, &copied} {
		if h, e := heap.Open(none); h != nil || e != api.ErrArg {
			t.Errorf("pager %d that is none: %v, %d", i, h, e)
		}
	}
	_, p = newPager(t, 1)
	if h, e := heap.Open(p); h != nil || e != api.ErrArg {
		t.Errorf("one page: %v, %d", h, e)
	}
	checkDirty(t, p)
	for _, pages := range []int{2, 3, 8, 9, 1023, 1024} {
		_, p := newPager(t, pages)
		open(t, p)
		checkDirty(t, p, 0, 1)
		checkPage(t, p, 0, full("\x02"))
		checkPage(t, p, 1, full("R"))
	}
}

// TestOpenFree: a free page 1 becomes a root page, whatever it had.
func TestOpenFree(t *testing.T) { // P10.1
	for _, s := range []string{"", "R", "R\x00\x05", "x", mixed(128)} {
		d, p := newPager(t, 10)
		for range 9 {
			p.Alloc()
		}
		p.Write(1, s)
		p.Write(5, end("five"))
		p.Free(1)
		p.Free(3)
		checkError(t, "commit", p.Commit(), api.OK)
		writes, flushes := d.Count()
		h := open(t, p)
		checkNoRoot(t, h, api.ErrNone)
		checkGet(t, h, 5, "five")
		checkPage(t, p, 1, full("R"))
		checkFree(t, p, 3)
		checkDirty(t, p, 0, 1)
		if n, m := d.Count(); n != writes || m != flushes {
			t.Error("the disk is written ahead of a commit")
		}
		p.Abort()
		checkPage(t, p, 1, full(s))
		checkFree(t, p, 1, 3)
	}
}

// TestOpenUsed: a page 1 in use is as it was, be it a root page or none.
func TestOpenUsed(t *testing.T) { // P10.1
	for _, s := range []string{"R", "R\x00\x02", "R\x00\x03", "R\x00\x01", "R\xff\xff", "RR", "R\x00\x02more", "R" + mixed(127)} {
		_, p := newPager(t, 10)
		p.Alloc()
		p.Write(1, s)
		checkStays(t, p, func() { open(t, p) })
		checkError(t, "commit", p.Commit(), api.OK)
		checkStays(t, p, func() { open(t, p) })
		checkStays(t, p, func() { open(t, p) })
	}
	for _, s := range []string{"", "r", "Q", "S", "\x00R", "\x00\x00R", " R", "\xd2", "\x00\x00\x01R", strings.Repeat("r", 128), full("")[:127] + "R"} {
		for pages := 2; pages < 12; pages++ {
			_, p := newPager(t, pages)
			p.Alloc()
			p.Write(1, s)
			checkStays(t, p, func() {
				if h, e := heap.Open(p); h != nil || e != api.ErrForm {
					t.Errorf("%q: %v, %d", s, h, e)
				}
			})
		}
	}
}

// checkNone sees that a heap that is none answers so.
func checkNone(t *testing.T, h *heap.Heap) {
	t.Helper()
	for _, s := range []string{"", "a", mixed(126), mixed(100001)} {
		if n, e := h.Put(s); n != 0 || e != api.ErrNil {
			t.Error("put", n, e)
		}
		checkError(t, "set root", h.SetRoot(s), api.ErrNil)
	}
	for _, id := range append(wrongIds(10), 2, 3) {
		if s, e := h.Get(id); s != "" || e != api.ErrNil {
			t.Errorf("get %d: %q, %d", id, s, e)
		}
		checkError(t, "drop", h.Drop(id), api.ErrNil)
	}
	checkNoRoot(t, h, api.ErrNil)
	for _, n := range []int{0, 1, 126, 100000, 100001, -1} {
		if h.Need(n) != 0 {
			t.Error("need", n, h.Need(n))
		}
	}
}

func TestNone(t *testing.T) { // P10.1 to P10.4: nil, and one that Open did not give
	checkNone(t, nil)
	checkNone(t, &heap.Heap{})
	p, h := start(t, 10)
	put(t, h, "a", 2)
	setRoot(t, h, "b")
	copied := *h
	checkStays(t, p, func() { checkNone(t, &copied) })
	checkGet(t, h, 2, "a")
	checkRoot(t, h, "b")
}

// TestPagerGone has a pager that is none any more: calls still end.
func TestPagerGone(t *testing.T) { // R1
	p, h := start(t, 10)
	put(t, h, "a", 2)
	setRoot(t, h, "b")
	saved := *p
	*p = pager.Pager{}
	for range 2 {
		h.Put("c")
		h.Get(2)
		h.Drop(2)
		h.Root()
		h.SetRoot("d")
		h.Need(5)
	}
	*p = saved
	checkGet(t, h, 2, "a")
	checkRoot(t, h, "b")
}

// TestDiskGone has a disk that is none any more, while the map stands in memory: calls still end.
func TestDiskGone(t *testing.T) { // R1
	d, p := newPager(t, 10)
	h := open(t, p)
	put(t, h, "a", 2)
	setRoot(t, h, "b")
	checkError(t, "commit", p.Commit(), api.OK)
	checkError(t, "free", p.Free(3), api.OK)
	saved := *d
	*d = disk.Disk{}
	if s, e := h.Get(2); s != "" || e == api.OK {
		t.Errorf("%q, %d", s, e)
	}
	if s, e := h.Root(); s != "" || e == api.OK {
		t.Errorf("%q, %d", s, e)
	}
	if h.Drop(2) == api.OK {
		t.Error("dropped")
	}
	h.SetRoot("c")
	heap.Open(p)
	*d = saved
}

func TestNeed(t *testing.T) { // P10.2
	_, h := start(t, 2)
	if h.Need(0) != 1 {
		t.Error(h.Need(0))
	}
	want, room := 1, 125
	for n := 1; n <= 100000; n++ {
		if n > room {
			want, room = want+1, room+125
		}
		if h.Need(n) != want {
			t.Fatal(n, h.Need(n), want)
		}
	}
	if want != 800 {
		t.Error(want)
	}
	for _, n := range []int{-1, -2, -124, -125, -126, -100000, 100001, 100125, 1 << 17, 1 << 32, 1<<32 + 5, math.MaxInt, math.MaxInt - 124, math.MinInt, math.MinInt + 1} {
		if h.Need(n) != 0 {
			t.Error(n, h.Need(n))
		}
	}
}

func TestPutPages(t *testing.T) { // P10.2
	for n, want := range map[int][]string{
		0:   {end("")},
		1:   {end(mixed(1))},
		2:   {end(mixed(2))},
		124: {end(mixed(124))},
		125: {end(mixed(125))},
		126: {head(3, 125) + mixed(126)[:125], end(mixed(126)[125:])},
		249: {head(3, 125) + mixed(249)[:125], end(mixed(249)[125:])},
		250: {head(3, 125) + mixed(250)[:125], end(mixed(250)[125:])},
		251: {head(3, 125) + mixed(251)[:125], head(4, 125) + mixed(251)[125:250], end(mixed(251)[250:])},
		375: {head(3, 125) + mixed(375)[:125], head(4, 125) + mixed(375)[125:250], end(mixed(375)[250:])},
	} {
		p, h := start(t, 8)
		for at := 2; at < 8; at++ {
			p.Write(at, mixed(128)) // what a free page had is none of the record's
		}
		put(t, h, mixed(n), 2)
		for i, s := range want {
			checkPage(t, p, 2+i, s)
		}
		checkPage(t, p, 2+len(want), mixed(128))
		if p.Frees() != 6-len(want) {
			t.Error(n, p.Frees())
		}
		checkGet(t, h, 2, mixed(n))
		put(t, h, "next", 2+len(want))
		checkPage(t, p, 1, full("R"))
	}
}

// TestPutAlike has records that end with bytes 0, or have nothing else.
func TestPutAlike(t *testing.T) { // P10.2, P10.5
	_, h := start(t, 200)
	for _, b := range []string{"\x00", "R", "\xff", "}"} {
		for _, n := range []int{1, 2, 3, 124, 125, 126, 249, 250, 251, 500, 1000} {
			id, e := h.Put(strings.Repeat(b, n))
			checkError(t, "put", e, api.OK)
			checkGet(t, h, id, strings.Repeat(b, n))
			checkError(t, "drop", h.Drop(id), api.OK)
		}
	}
}

// TestPutScattered takes the free pages by their numbers, be others between.
func TestPutScattered(t *testing.T) { // P10.2
	p, h := start(t, 600)
	for range 598 {
		p.Alloc()
	}
	for _, at := range []int{598, 4, 300, 256, 255, 7} {
		p.Free(at)
	}
	put(t, h, mixed(625), 4)
	for i, at := range []int{4, 7, 255, 256, 300} {
		next := []int{7, 255, 256, 300, 0}[i]
		checkPage(t, p, at, head(next, 125)+mixed(625)[125*i:125*(i+1)])
	}
	checkFree(t, p, 598)
	checkGet(t, h, 4, mixed(625))
	put(t, h, "last", 598)
	checkGet(t, h, 598, "last")
}

// TestPutGreatest has the greatest record, and one byte more, in the greatest pager.
func TestPutGreatest(t *testing.T) { // P10.2, P10.5
	p, h := start(t, 1024)
	for _, n := range []int{100001, 100002, 100125, 127750, 127751, 1 << 20} {
		checkStays(t, p, func() {
			id, e := h.Put(mixed(n))
			if id != 0 || e != api.ErrBig {
				t.Error(n, id, e)
			}
			checkError(t, "set root", h.SetRoot(mixed(n)), api.ErrBig)
		})
	}
	put(t, h, mixed(100000), 2)
	if p.Frees() != 1022-800 {
		t.Error(p.Frees())
	}
	checkGet(t, h, 2, mixed(100000))
	put(t, h, mixed(222*125), 802)
	checkFree(t, p)
	for _, n := range []int{100001, 1 << 20} { // there is no room either
		if id, e := h.Put(mixed(n)); id != 0 || e != api.ErrBig {
			t.Error(n, id, e)
		}
	}
	if id, e := h.Put(""); id != 0 || e != api.ErrFull {
		t.Error(id, e)
	}
	checkGet(t, h, 2, mixed(100000))
	checkGet(t, h, 802, mixed(222*125))
	checkError(t, "drop", h.Drop(2), api.OK)
	put(t, h, mixed(99999), 2)
	checkGet(t, h, 2, mixed(99999))
}

// TestPutFull has records that take all free pages, and one byte more.
func TestPutFull(t *testing.T) { // P10.2
	for pages := 2; pages < 20; pages++ {
		p, h := start(t, pages)
		free := pages - 2
		for _, n := range []int{125*free + 1, 125*free + 126, 100000} {
			if free == 0 {
				n = 0
			}
			checkStays(t, p, func() {
				if id, e := h.Put(mixed(n)); id != 0 || e != api.ErrFull {
					t.Error(pages, n, id, e)
				}
				checkError(t, "set root", h.SetRoot(mixed(n)), api.ErrFull)
			})
			checkDirty(t, p)
		}
		if free == 0 {
			continue
		}
		put(t, h, mixed(125*free), 2)
		checkFree(t, p)
		checkGet(t, h, 2, mixed(125*free))
		checkStays(t, p, func() {
			if id, e := h.Put(""); id != 0 || e != api.ErrFull {
				t.Error(pages, id, e)
			}
		})
	}
}

// TestNotCommitted: the pager commits, or takes back, what the heap changed.
func TestNotCommitted(t *testing.T) { // P10.2 to P10.4
	d, p := newPager(t, 20)
	h := open(t, p)
	put(t, h, mixed(200), 2)
	setRoot(t, h, "root")
	checkError(t, "commit", p.Commit(), api.OK)
	writes, flushes := d.Count()
	before := pagesOf(t, p)
	put(t, h, mixed(300), 5)
	setRoot(t, h, "other")
	checkError(t, "drop", h.Drop(2), api.OK)
	checkDirty(t, p, 0, 1, 5, 6, 7, 8)
	if n, m := d.Count(); n != writes || m != flushes {
		t.Error("the disk is written ahead of a commit")
	}
	p.Abort()
	if !slices.Equal(pagesOf(t, p), before) {
		t.Error("what is taken back is there")
	}
	checkGet(t, h, 2, mixed(200))
	checkRoot(t, h, "root")
	put(t, h, "more", 5)
	checkError(t, "commit", p.Commit(), api.OK)
	put(t, h, "loose", 6)
	d.Crash(nil)
	h = open(t, openPager(t, d))
	checkGet(t, h, 2, mixed(200))
	checkGet(t, h, 5, "more")
	checkRoot(t, h, "root")
	if s, e := h.Get(6); s != "" || e != api.ErrNone {
		t.Errorf("%q, %d", s, e)
	}
}

func TestMemory(t *testing.T) { // R4
	p, h := start(t, 20)
	room := []byte(mixed(300))
	s := unsafe.String(&room[0], 300)
	put(t, h, s, 2)
	setRoot(t, h, s)
	if string(room) != mixed(300) {
		t.Error("what is handed in is changed")
	}
	clear(room)
	checkGet(t, h, 2, mixed(300))
	checkRoot(t, h, mixed(300))
	for range 2 {
		one, _ := h.Get(2)
		clear(unsafe.Slice(unsafe.StringData(one), 300))
		checkGet(t, h, 2, mixed(300))
	}
	one, _ := h.Root()
	clear(unsafe.Slice(unsafe.StringData(one), 300))
	checkRoot(t, h, mixed(300))
	checkPage(t, p, 2, head(3, 125)+mixed(300)[:125])
}

// TestApart has two heaps in two pagers, and two in one: these have the same records.
func TestApart(t *testing.T) { // P10.1, R5
	p, a := start(t, 10)
	_, b := start(t, 10)
	put(t, a, "a", 2)
	put(t, b, "b", 2)
	again := open(t, p)
	checkGet(t, again, 2, "a")
	setRoot(t, again, "root")
	checkRoot(t, a, "root")
	checkNoRoot(t, b, api.ErrNone)
	checkError(t, "drop", again.Drop(2), api.OK)
	put(t, a, "c", 2)
	checkGet(t, again, 2, "c")
	checkGet(t, b, 2, "b")
}

// TestExample is the chapter's.
func TestExample(t *testing.T) { // P10.2
	p, h := start(t, 10)
	free := p.Frees()
	put(t, h, mixed(126), 2)
	if p.Frees() != free-2 || h.Need(126) != 2 {
		t.Error(p.Frees(), h.Need(126))
	}
}
