package wal_test

import (
	"slices"
	"testing"

	"memoir/api"
	"memoir/disk"
	"memoir/wal"
)

// chance is numbers that look mixed, the same ones each time.
type chance uint32

func (c *chance) below(n int) int {
	*c = *c*1664525 + 1013904223
	return int(*c>>8) % n
}

func (c *chance) record() string {
	return mixed([]int{0, 1, 3, 100, 101, 200, 201, 250}[c.below(8)])
}

func (c *chance) keep(n int) []bool {
	l := make([]bool, c.below(n+1))
	for i := range l {
		l[i] = c.below(2) == 0
	}
	return l
}

// life is what a log must have behind a crash: all that was committed, and it may have the first ones of what was appended behind that. A Reset that was cut off may have emptied it.
type life struct {
	sure, loose []string
	emptied     bool
}

func (h *life) append(l *wal.Log, s string) api.Errno {
	e := l.Append(s)
	if e == api.OK {
		h.loose = append(slices.Clip(h.loose), s)
	}
	return e
}

func (h *life) commit(l *wal.Log) api.Errno {
	e := l.Commit()
	if e == api.OK {
		h.sure, h.loose = slices.Concat(h.sure, h.loose), nil
	}
	return e
}

func (h *life) reset(l *wal.Log) api.Errno {
	e := l.Reset()
	if e == api.OK {
		h.sure, h.loose = nil, nil
	} else {
		h.emptied = true
	}
	return e
}

func (h *life) may(records []string) bool {
	if h.emptied && len(records) == 0 {
		return true
	}
	all := slices.Concat(h.sure, h.loose)
	return len(records) >= len(h.sure) && len(records) <= len(all) && slices.Equal(records, all[:len(records)])
}

// wake opens a log behind a crash: what it has then is sure.
func (h *life) wake(t *testing.T, d *disk.Disk) *wal.Log {
	t.Helper()
	l := open(t, d)
	r := l.Records()
	if !h.may(r) {
		t.Fatalf("%.20q, though %.20q is sure, and %.20q may be (emptied: %v)", r, h.sure, h.loose, h.emptied)
	}
	used := 0
	for _, s := range r {
		used += 1 + (max(len(s), 1)-1)/100
	}
	if l.Used() != used {
		t.Fatalf("%d used, not %d", l.Used(), used)
	}
	*h = life{sure: r}
	return l
}

type step func(h *life, l *wal.Log) api.Errno

func appends(s string) step {
	return func(h *life, l *wal.Log) api.Errno { return h.append(l, s) }
}

// old is a disk whose log has been emptied, and filled again over it, so that old places stand in it.
func old(t *testing.T) (*disk.Disk, life) {
	t.Helper()
	d, l := newLog(t, 8)
	appendAll(t, l, mixed(250), mixed(250), "c", "d")
	commit(t, l)
	checkError(t, "reset", l.Reset(), api.OK)
	appendAll(t, l, "e", mixed(150), mixed(150))
	crash(t, d, true, false, true, true)
	h := life{loose: []string{"e"}}
	h.wake(t, d)
	return d, h
}

// eachCut runs the steps with the fuse at each place, and ends with each choice of the writes that stay.
func eachCut(t *testing.T, d *disk.Disk, h life, steps []step, then func(d *disk.Disk, h life)) {
	t.Helper()
	for n := range 9 {
		c := d.Copy()
		now := life{sure: h.sure}
		l := now.wake(t, c)
		c.Fuse(n)
		for _, s := range steps {
			if s(&now, l) != api.OK {
				break
			}
		}
		writes := len(c.Dirty())
		for choice := range 1 << writes {
			keep := make([]bool, writes)
			for i := range keep {
				keep[i] = choice>>i&1 == 1
			}
			end := c.Copy()
			checkError(t, "crash", end.Crash(keep), api.OK)
			then(end, now)
		}
	}
}

// TestEachCrash cuts rows of steps off at each place, with each choice of the writes that stay, and then once more in the life behind it.
func TestEachCrash(t *testing.T) { // P8.2 to P8.5
	rows := [][]step{
		{appends("a"), (*life).commit, appends("b"), appends("")},
		{appends(mixed(250)), appends("b")},
		{appends(mixed(101)), (*life).commit, appends(mixed(101)), (*life).commit},
		{appends("a"), (*life).reset, appends("b"), appends("c")},
		{appends("a"), (*life).commit, (*life).reset, appends(mixed(120)), (*life).commit},
		{appends("a"), appends("a"), appends("a"), appends("a")},
	}
	for _, first := range rows {
		d, h := old(t)
		eachCut(t, d, h, first, func(d *disk.Disk, h life) {
			h.wake(t, d)
			for _, second := range [][]step{{appends(mixed(150)), appends("z")}, {appends("z"), (*life).reset}} {
				eachCut(t, d, h, second, func(d *disk.Disk, h life) {
					l := h.wake(t, d)
					h.append(l, "end")
					checkError(t, "commit", h.commit(l), api.OK)
					crash(t, d)
					h.wake(t, d)
				})
			}
		})
	}
}

// TestOpenCutOff cuts Open itself off, time and again, with places that are not flushed ahead of it.
func TestOpenCutOff(t *testing.T) { // P8.2, P8.5
	c := chance(4)
	for range 300 {
		d, h := old(t)
		for range 20 {
			l := h.wake(t, d)
			h.append(l, c.record())
			h.append(l, c.record())
			if c.below(2) == 0 {
				crash(t, d, c.keep(len(d.Dirty()))...)
			}
			for range c.below(4) {
				d.Fuse(c.below(2))
				if l, e := wal.Open(d, 0, d.Len()); l != nil || e != api.ErrState {
					t.Fatal(l, e)
				}
				crash(t, d, c.keep(len(d.Dirty()))...)
			}
		}
	}
}

// TestLongRows goes through long rows of calls and crashes, with the fuse now and then.
func TestLongRows(t *testing.T) { // P8.2 to P8.5
	c := chance(5)
	for range 300 {
		d := newDisk(t, 4+c.below(20))
		var h life
		l := h.wake(t, d)
		for range 200 {
			switch c.below(16) {
			case 0, 1, 2:
				h.commit(l)
			case 3:
				h.reset(l)
			case 4:
				d.Fuse(c.below(12))
			case 5, 6:
				crash(t, d, c.keep(len(d.Dirty()))...)
				l = h.wake(t, d)
			case 7: // a second log, though there was no crash, has all
				d.Fuse(1000)
				l = h.wake(t, d)
			default:
				h.append(l, c.record())
			}
		}
	}
}

// TestCommittedStays commits records one by one, with a crash behind each, until the log is full.
func TestCommittedStays(t *testing.T) { // P8.5
	d := newDisk(t, 1000)
	var h life
	l := h.wake(t, d)
	for n := 0; l.Fits(n); n++ {
		checkError(t, "append", h.append(l, mixed(n)), api.OK)
		checkError(t, "commit", h.commit(l), api.OK)
		if n%7 == 0 {
			h.append(l, mixed(301))
			crash(t, d, slices.Repeat([]bool{false, true}, len(d.Dirty())/2)...)
			l = h.wake(t, d)
		}
	}
	if l.Used() < 990 {
		t.Error(l.Used())
	}
	checkError(t, "reset", h.reset(l), api.OK)
	crash(t, d)
	h.wake(t, d)
}
