package heap_test

import (
	"math"
	"slices"
	"strings"
	"testing"

	"memoir/api"
	"memoir/heap"
	"memoir/pager"
)

// wrongIds is numbers that are no record's in a pager of so many pages.
func wrongIds(pages int) []int {
	return []int{0, 1, -1, -2, -1 << 16, pages, pages + 1, 1024, 1 << 16, 1<<16 + 2, 1 << 32, 1<<32 + 2, math.MaxInt, math.MinInt, math.MinInt + 2}
}

// checkFails sees that a record can't be got, nor dropped, and that nothing is changed.
func checkFails(t *testing.T, p *pager.Pager, h *heap.Heap, id int, want api.Errno) {
	t.Helper()
	checkStays(t, p, func() {
		t.Helper()
		if s, e := h.Get(id); s != "" || e != want {
			t.Errorf("get %d: %.40q, %d, not %d", id, s, e, want)
		}
		checkError(t, "drop", h.Drop(id), want)
	})
}

// used is a heap of which all pages but these are in use.
func used(t *testing.T, pages int, free ...int) (*pager.Pager, *heap.Heap) {
	t.Helper()
	p, h := start(t, pages)
	for range pages - 2 {
		p.Alloc()
	}
	for _, at := range free {
		checkError(t, "free", p.Free(at), api.OK)
	}
	return p, h
}

func TestNoRecord(t *testing.T) { // P10.3
	for pages := 2; pages < 20; pages++ {
		p, h := used(t, pages)
		for _, id := range wrongIds(pages) {
			checkFails(t, p, h, id, api.ErrNone)
		}
		for id := 2; id < pages; id++ {
			checkGet(t, h, id, "") // a page that is all 0 is a record of none
			p.Write(id, end("x"))
			checkGet(t, h, id, "x")
			checkError(t, "free", p.Free(id), api.OK)
			checkFails(t, p, h, id, api.ErrNone)
			p.Write(id, mixed(128)) // that it is free is told first
			checkFails(t, p, h, id, api.ErrNone)
		}
	}
	p, h := used(t, 1024)
	p.Write(1023, end("last"))
	checkGet(t, h, 1023, "last")
	checkFails(t, p, h, 1024, api.ErrNone)
}

func TestDroppedTwice(t *testing.T) { // P10.3
	p, h := start(t, 10)
	put(t, h, mixed(300), 2)
	checkError(t, "drop", h.Drop(2), api.OK)
	for id := range 10 {
		checkFails(t, p, h, id, api.ErrNone)
	}
}

// TestForms has each row of pages that is none: 2 to 9 are in use, but 6.
func TestForms(t *testing.T) { // P10.3
	for i, pages := range []map[int]string{
		{2: link(1, "a")}, // page 1
		{2: link(3, "a"), 3: link(1, "b")},
		{2: link(2, "a")}, // in the row already
		{2: link(3, "a"), 3: link(2, "b")},
		{2: link(3, "a"), 3: link(3, "b")},
		{2: link(3, "a"), 3: link(4, "b"), 4: link(3, "c")},
		{2: link(9, "a"), 9: link(8, "b"), 8: link(7, "c"), 7: link(5, "d"), 5: link(4, "e"), 4: link(3, "f"), 3: link(2, "g")},
		{2: link(9, "a"), 9: link(8, "b"), 8: link(7, "c"), 7: link(5, "d"), 5: link(4, "e"), 4: link(3, "f"), 3: link(5, "g")},
		{2: link(6, "a"), 6: end("b")}, // not in use
		{2: link(3, "a"), 3: link(6, "b"), 6: end("c")},
		{2: link(10, "a")}, // no page
		{2: link(11, "a")}, {2: link(1024, "a")}, {2: link(0xffff, "a")}, {2: link(0x0200, "a")}, {2: link(0x0300, "a")}, {2: link(0x8003, "a")},
		{2: link(3, "a"), 3: link(10, "b")},
		{2: head(0, 126)}, {2: head(0, 127)}, {2: head(0, 128)}, {2: head(0, 250)}, {2: head(0, 255)}, {2: head(0, 126) + mixed(125)}, // the last one has more
		{2: link(3, "a"), 3: head(0, 126)}, {2: link(3, "a"), 3: head(0, 255)},
		{2: head(3, 124) + mixed(125)}, {2: head(3, 0)}, {2: head(3, 1) + "a"}, {2: head(3, 126) + mixed(125)}, {2: head(3, 255) + mixed(125)}, // another one has not 125
		{2: link(3, "a"), 3: head(4, 124) + mixed(125)}, {2: link(3, "a"), 3: head(4, 0)}, {2: link(3, "a"), 3: head(4, 126) + mixed(125)}, {2: link(3, "a"), 3: head(4, 253) + mixed(125)},
		{2: head(2, 5) + "a"}, {2: head(1, 5) + "a"}, {2: head(6, 126) + "a"}, {2: head(99, 0)}, // more than one of these
		{2: strings.Repeat("\xff", 128)}, {2: mixed(128)},
	} {
		p, h := used(t, 10, 6)
		for at, s := range pages {
			checkError(t, "write", p.Write(at, s), api.OK)
		}
		checkFails(t, p, h, 2, api.ErrForm)
		if t.Failed() {
			t.Fatal(i, pages)
		}
	}
}

// TestRight has rows of pages that Put does not write, but that are records.
func TestRight(t *testing.T) { // P10.3
	a, b := strings.Repeat("a", 125), strings.Repeat("b", 125)
	for i, x := range []struct {
		pages map[int]string
		want  string
		freed []int
	}{
		{map[int]string{2: ""}, "", []int{2, 6}},
		{map[int]string{2: head(0, 0) + "more"}, "", []int{2, 6}},
		{map[int]string{2: head(0, 1) + "more"}, "m", []int{2, 6}},
		{map[int]string{2: head(0, 124) + a}, a[:124], []int{2, 6}},
		{map[int]string{2: head(0, 5)}, "\x00\x00\x00\x00\x00", []int{2, 6}},
		{map[int]string{2: link(3, "a")}, a, []int{2, 3, 6}}, // the last one has none
		{map[int]string{2: link(3, "a"), 3: link(0, "b")}, a + b, []int{2, 3, 6}},
		{map[int]string{2: link(9, "a"), 9: link(3, "b"), 3: end("c")}, a + b + "c", []int{2, 3, 6, 9}},
		{map[int]string{2: link(9, "a"), 9: link(3, "b"), 3: link(7, "a"), 7: head(0, 2) + "cde"}, a + b + a + "cd", []int{2, 3, 6, 7, 9}},
		{map[int]string{2: link(3, "a"), 3: link(4, "b"), 4: link(5, "b"), 5: link(7, "a"), 7: link(8, "b"), 8: link(9, "a"), 9: end("c")}, a + b + b + a + b + a + "c", []int{2, 3, 4, 5, 6, 7, 8, 9}},
	} {
		p, h := used(t, 10, 6)
		for at, s := range x.pages {
			checkError(t, "write", p.Write(at, s), api.OK)
		}
		checkStays(t, p, func() { checkGet(t, h, 2, x.want) })
		checkError(t, "drop", h.Drop(2), api.OK)
		checkFree(t, p, x.freed...)
		checkFails(t, p, h, 2, api.ErrNone)
		if t.Failed() {
			t.Fatal(i)
		}
	}
}

// TestAllCounts has each number of bytes in a last page, and in one that is not.
func TestAllCounts(t *testing.T) { // P10.3
	p, h := used(t, 5)
	text := mixed(125)
	for n := range 256 {
		p.Write(2, head(0, n)+text)
		if n <= 125 {
			checkGet(t, h, 2, text[:n])
		} else {
			checkFails(t, p, h, 2, api.ErrForm)
		}
		p.Write(2, head(4, n)+text)
		p.Write(4, end("z"))
		if n == 125 {
			checkGet(t, h, 2, text+"z")
		} else {
			checkFails(t, p, h, 2, api.ErrForm)
		}
	}
}

// TestAllNexts has each next page.
func TestAllNexts(t *testing.T) { // P10.3
	a := strings.Repeat("a", 125)
	for _, pages := range []int{5, 300, 1024} {
		p, h := used(t, pages, 3)
		for at := 4; at < pages; at++ {
			p.Write(at, end(head(at, 7)))
		}
		for next := range 1 << 16 {
			p.Write(2, link(next, "a"))
			want := a + head(next, 7)
			switch {
			case next == 0:
				checkGet(t, h, 2, a)
			case next >= 4 && next < pages:
				checkGet(t, h, 2, want)
			default:
				if s, e := h.Get(2); s != "" || e != api.ErrForm {
					t.Fatalf("%d: %q, %d", next, s, e)
				}
			}
		}
	}
}

// TestLongestRow has a row of all pages there can be: that is more than can be put.
func TestLongestRow(t *testing.T) { // P10.3
	p, h := used(t, 1024)
	for at := 3; at < 1024; at++ {
		p.Write(at, link(at-1, string([]byte{byte(at)})))
	}
	p.Write(2, end("end"))
	s, e := h.Get(1023)
	if len(s) != 1021*125+3 || e != api.OK || !strings.HasSuffix(s, "\x03end") || !strings.HasPrefix(s, "\xff\xff") {
		t.Fatal(len(s), e)
	}
	p.Write(2, link(1023, "x"))
	checkFails(t, p, h, 1023, api.ErrForm)
	p.Write(2, link(2, "x"))
	checkFails(t, p, h, 1023, api.ErrForm)
	p.Write(2, end(""))
	checkError(t, "drop", h.Drop(1023), api.OK)
	if p.Frees() != 1022 {
		t.Error(p.Frees())
	}
}

// TestMiddle: a record's later page is an id, too: of the bytes from there on.
func TestMiddle(t *testing.T) { // P10.3
	p, h := start(t, 10)
	text := mixed(500)
	put(t, h, text, 2)
	for i := range 4 {
		checkGet(t, h, 2+i, text[125*i:])
	}
	checkError(t, "drop", h.Drop(4), api.OK)
	checkFree(t, p, 4, 5, 6, 7, 8, 9)
	checkFails(t, p, h, 2, api.ErrForm)
	checkFails(t, p, h, 3, api.ErrForm)
	checkFails(t, p, h, 4, api.ErrNone)
	checkFails(t, p, h, 5, api.ErrNone)
}

// TestDrop frees the record's pages, and leaves those of others.
func TestDrop(t *testing.T) { // P10.3, P10.5
	p, h := start(t, 12)
	put(t, h, mixed(200), 2)
	put(t, h, mixed(1), 4)
	put(t, h, mixed(300), 5)
	put(t, h, mixed(125), 8)
	checkError(t, "commit", p.Commit(), api.OK)
	checkError(t, "drop", h.Drop(5), api.OK)
	checkDirty(t, p, 0)
	checkFree(t, p, 5, 6, 7, 9, 10, 11)
	checkError(t, "drop", h.Drop(2), api.OK)
	checkFree(t, p, 2, 3, 5, 6, 7, 9, 10, 11)
	checkGet(t, h, 4, mixed(1))
	checkGet(t, h, 8, mixed(125))
	put(t, h, mixed(750), 2)
	checkFree(t, p, 10, 11)
	checkGet(t, h, 2, mixed(750))
	checkGet(t, h, 4, mixed(1))
	checkGet(t, h, 8, mixed(125))
}

func TestRoot(t *testing.T) { // P10.4
	p, h := start(t, 12)
	checkStays(t, p, func() { checkNoRoot(t, h, api.ErrNone) })
	free := []int{2, 3, 4, 5, 6, 7, 8, 9, 10, 11}
	for _, x := range []struct {
		bytes int
		id    int
		takes []int
	}{{0, 2, []int{2}}, {300, 3, []int{3, 4, 5}}, {126, 2, []int{2, 6}}, {5, 3, []int{3}}, {625, 2, []int{2, 4, 5, 6, 7}}, {500, 3, []int{3, 8, 9, 10}}, {750, 2, []int{2, 4, 5, 6, 7, 11}}} {
		setRoot(t, h, mixed(x.bytes))
		checkPage(t, p, 1, full("R"+head(x.id, 0)))
		checkStays(t, p, func() { checkRoot(t, h, mixed(x.bytes)) })
		checkGet(t, h, x.id, mixed(x.bytes))
		checkRoot(t, open(t, p), mixed(x.bytes))
		left := slices.DeleteFunc(slices.Clone(free), func(at int) bool { return slices.Contains(x.takes, at) })
		checkFree(t, p, left...)
	}
}

// TestSetRootFull: the old record's pages are no room for the new one.
func TestSetRootFull(t *testing.T) { // P10.4
	p, h := start(t, 10)
	setRoot(t, h, mixed(500))
	for _, n := range []int{501, 600, 1000, 100000} {
		checkStays(t, p, func() { checkError(t, "full", h.SetRoot(mixed(n)), api.ErrFull) })
	}
	for _, n := range []int{100001, 200000} {
		checkStays(t, p, func() { checkError(t, "big", h.SetRoot(mixed(n)), api.ErrBig) })
	}
	checkRoot(t, h, mixed(500))
	setRoot(t, h, mixed(499))
	checkRoot(t, h, mixed(499))
	checkFree(t, p, 2, 3, 4, 5)
}

// TestRootPage has a root page that others wrote, and records there.
func TestRootPage(t *testing.T) { // P10.4
	p, h := used(t, 600, 5)
	p.Write(2, link(258, "a"))
	p.Write(258, end("two"))
	p.Write(513, end("here"))
	p.Write(3, link(5, "a"))
	a := strings.Repeat("a", 125)
	for id, want := range map[int]string{2: a + "two", 258: "two", 513: "here", 599: ""} {
		p.Write(1, "R"+head(id, 0))
		checkRoot(t, h, want)
		p.Write(1, "R"+head(id, 1)+"more") // what stands behind is none of it
		checkRoot(t, h, want)
	}
	for id, want := range map[int]api.Errno{0: api.ErrNone, 1: api.ErrNone, 5: api.ErrNone, 600: api.ErrNone, 1024: api.ErrNone, 0xffff: api.ErrNone, 3: api.ErrForm} {
		p.Write(1, "R"+head(id, 0))
		checkStays(t, p, func() { checkNoRoot(t, h, want) })
	}
}

// TestSetRootOverWrong: an old record that can't be dropped makes no difference, and stays.
func TestSetRootOverWrong(t *testing.T) { // P10.4
	for _, id := range []int{0, 1, 3, 7, 10, 0x0302, 0xffff} {
		p, h := used(t, 10, 6, 7, 8, 9)
		p.Write(3, link(4, "a"))
		p.Write(4, head(0, 126))
		p.Write(1, "R"+head(id, 0)+"more")
		setRoot(t, h, "new")
		checkPage(t, p, 1, full("R"+head(6, 0)))
		checkRoot(t, h, "new")
		checkFree(t, p, 7, 8, 9)
		setRoot(t, h, "newer")
		checkRoot(t, h, "newer")
		checkFree(t, p, 6, 8, 9)
	}
}

// TestSetRootOverDropped: where the old record's pages were dropped, the new one can take them, and has them.
func TestSetRootOverDropped(t *testing.T) { // P10.4, P10.5
	for drop := range 4 {
		for _, n := range []int{0, 1, 125, 126, 250, 300, 500, 501, 1000} {
			p, h := start(t, 16)
			setRoot(t, h, mixed(450)) // 2 to 5
			checkError(t, "drop", h.Drop(2+drop), api.OK)
			want := api.ErrForm
			if drop == 0 {
				want = api.ErrNone
			}
			checkNoRoot(t, h, want)
			free := p.Frees()
			setRoot(t, h, mixed(n))
			checkRoot(t, h, mixed(n))
			if p.Frees() != free-h.Need(n) {
				t.Error(drop, n, p.Frees())
			}
			setRoot(t, h, "next")
			checkRoot(t, h, "next")
			if p.Frees() != free-1 {
				t.Error(drop, n, p.Frees())
			}
		}
	}
}
