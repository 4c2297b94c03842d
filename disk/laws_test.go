package disk_test

import (
	"slices"
	"strings"
	"testing"

	"memoir/api"
	"memoir/disk"
)

type laid struct {
	at   int
	text string
}

// plain is a disk as the chapter's words tell it: what was sure, and all writes behind that.
type plain struct {
	sure            []string
	cache           []laid
	writes, flushes int
	fuse            int // -1: none
}

func newPlain(sectors int) *plain {
	return &plain{sure: slices.Repeat([]string{full("")}, sectors), fuse: -1}
}

func (p *plain) copied() *plain {
	c := *p
	c.sure, c.cache = slices.Clone(p.sure), slices.Clone(p.cache)
	return &c
}

func (p *plain) read(at int) string {
	for i := len(p.cache) - 1; i >= 0; i-- {
		if p.cache[i].at == at {
			return p.cache[i].text
		}
	}
	return p.sure[at]
}

// took tells whether one more write or flush goes.
func (p *plain) took() bool {
	if p.fuse == 0 {
		return false
	}
	if p.fuse > 0 {
		p.fuse--
	}
	return true
}

func (p *plain) write(at int, s string) api.Errno {
	switch {
	case at < 0 || at >= len(p.sure):
		return api.ErrRange
	case len(s) > 128:
		return api.ErrBig
	case !p.took():
		return api.ErrState
	}
	p.cache = append(p.cache, laid{at, full(s)})
	p.writes++
	return api.OK
}

func (p *plain) stay(keep []bool) {
	for i, w := range p.cache {
		if i < len(keep) && keep[i] {
			p.sure[w.at] = w.text
		}
	}
	p.cache = nil
}

func (p *plain) flush() api.Errno {
	if !p.took() {
		return api.ErrState
	}
	p.stay(slices.Repeat([]bool{true}, len(p.cache)))
	p.flushes++
	return api.OK
}

func (p *plain) crash(keep []bool) api.Errno {
	if len(keep) > len(p.cache) {
		return api.ErrArg
	}
	p.stay(keep)
	p.fuse = -1
	return api.OK
}

func checkPlain(t *testing.T, d *disk.Disk, p *plain) {
	t.Helper()
	for at := range p.sure {
		if s, e := d.Read(at); s != p.read(at) || e != api.OK {
			t.Fatalf("sector %d: %q, %d, not %q", at, s, e, p.read(at))
		}
	}
	var dirty []int
	for _, w := range p.cache {
		dirty = append(dirty, w.at)
	}
	if l := d.Dirty(); !slices.Equal(l, dirty) {
		t.Fatalf("dirty: %v, not %v", l, dirty)
	}
	if n, m := d.Count(); n != p.writes || m != p.flushes || d.Len() != len(p.sure) {
		t.Fatalf("%d writes, %d flushes, %d sectors, not %d, %d, %d", n, m, d.Len(), p.writes, p.flushes, len(p.sure))
	}
}

// step is one call of both, and what they tell of it.
type step func(d *disk.Disk, p *plain) (api.Errno, api.Errno)

func writes(at int, s string) step {
	return func(d *disk.Disk, p *plain) (api.Errno, api.Errno) { return d.Write(at, s), p.write(at, s) }
}

func flushes(d *disk.Disk, p *plain) (api.Errno, api.Errno) { return d.Flush(), p.flush() }

func crashes(keep ...bool) step {
	return func(d *disk.Disk, p *plain) (api.Errno, api.Errno) { return d.Crash(keep), p.crash(keep) }
}

func fuses(n int) step {
	return func(d *disk.Disk, p *plain) (api.Errno, api.Errno) {
		d.Fuse(n)
		p.fuse = max(n, 0)
		return api.OK, api.OK
	}
}

func do(t *testing.T, l []step, d *disk.Disk, p *plain) {
	t.Helper()
	for i, s := range l {
		if got, want := s(d, p); got != want {
			t.Fatalf("step %d: %d, not %d", i, got, want)
		}
		checkPlain(t, d, p)
	}
}

// TestRows does each row of five steps out of ten.
func TestRows(t *testing.T) { // P7.2 to P7.5
	steps := []step{writes(0, "a"), writes(0, ""), writes(1, "b"), writes(2, ""), flushes, crashes(), crashes(true), crashes(false, true), fuses(1), fuses(0)}
	for n := range 100000 {
		var l []step
		for range 5 {
			l = append(l, steps[n%10])
			n /= 10
		}
		do(t, l, newDisk(t, 2), newPlain(2))
	}
}

// chance is numbers that look mixed, the same ones each time.
type chance uint32

func (c *chance) below(n int) int {
	*c = *c*1664525 + 1013904223
	return int(*c>>8) % n
}

func (c *chance) text() string {
	return strings.Repeat(string([]byte{byte(c.below(4))}), []int{0, 1, 127, 128, 128, 129}[c.below(6)])
}

func (c *chance) step(p *plain) step {
	switch c.below(12) {
	case 0, 1:
		return flushes
	case 2, 3:
		keep := make([]bool, c.below(len(p.cache)+2))
		for i := range keep {
			keep[i] = c.below(2) == 0
		}
		return crashes(keep...)
	case 4:
		return fuses(c.below(12) - 1)
	}
	return writes(c.below(len(p.sure)+2)-1, c.text())
}

// TestLongRows does long rows of steps; now and then they go on with a copy, and the one it was copied from stays as it was.
func TestLongRows(t *testing.T) { // P7.2 to P7.5
	c := chance(1)
	for range 100 {
		n := 1 + c.below(6)
		d, p := newDisk(t, n), newPlain(n)
		left, asLeft := d.Copy(), p.copied()
		for range 200 {
			if c.below(20) == 0 {
				checkPlain(t, left, asLeft)
				left, asLeft = d, p.copied()
				d = d.Copy()
			}
			do(t, []step{c.step(p)}, d, p)
		}
		checkPlain(t, left, asLeft)
		do(t, []step{crashes(), flushes}, left, asLeft)
		checkPlain(t, d, p)
	}
}

// TestGreatest has a disk of all sectors, each written.
func TestGreatest(t *testing.T) { // P7.1 to P7.3
	d, p := newDisk(t, api.MaxSectors), newPlain(api.MaxSectors)
	lay := func(s string) {
		for at := range api.MaxSectors {
			if got, want := writes(at, s+string(rune('a'+at%26)))(d, p); got != want {
				t.Fatal(at, got)
			}
		}
	}
	lay("1")
	do(t, []step{flushes}, d, p)
	lay("2")
	keep := make([]bool, 3000)
	for i := range keep {
		keep[i] = i%3 == 0
	}
	do(t, []step{crashes(keep...)}, d, p)
}

// TestLaw holds a crash against what each sector may have behind it.
func TestLaw(t *testing.T) { // P7.5
	c := chance(2)
	for range 300 {
		d := newDisk(t, 4)
		may := make([][]string, 4) // what a sector had at the last flush, and what its writes laid
		for at := range 4 {
			s := string(rune('a' + at))
			d.Write(at, s)
			may[at] = []string{full(s)}
		}
		d.Flush()
		for i := range 12 {
			at, s := c.below(3), strings.Repeat(string(rune('e'+i)), 1+c.below(128)) // the last sector has been flushed, and is not written
			d.Write(at, s)
			may[at] = append(may[at], full(s))
		}
		keep := make([]bool, c.below(13))
		for i := range keep {
			keep[i] = c.below(2) == 0
		}
		crash(t, d, keep...)
		for at, l := range may {
			if s, e := d.Read(at); e != api.OK || !slices.Contains(l, s) {
				t.Errorf("sector %d: %q, %d", at, s, e)
			}
		}
	}
}
