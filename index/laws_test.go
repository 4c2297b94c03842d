package index_test

import (
	"bytes"
	"slices"
	"testing"

	"memoir/api"
	"memoir/index"
)

// chance is numbers that look mixed, the same ones each time.
type chance uint32

func (c *chance) below(n int) int {
	*c = *c*1664525 + 1013904223
	return int(*c>>8) % n
}

func one[T any](c *chance, l []T) T {
	return l[c.below(len(l))]
}

// plain is items as the chapter's words tell them: a list, asked one by one.
type plain []index.Item

func (p plain) place(key string, start int) int {
	return slices.IndexFunc(p, func(i index.Item) bool { return i.Key == key && i.Start == start })
}

func (p *plain) insert(i index.Item) api.Errno {
	if i.Start < 0 || i.End <= i.Start || i.End > end {
		return api.ErrArg
	}
	if p.place(i.Key, i.Start) >= 0 {
		return api.ErrTwice
	}
	*p = append(*p, i)
	return api.OK
}

func (p plain) close(key string, start, to int) api.Errno {
	n := p.place(key, start)
	if n < 0 {
		return api.ErrNone
	}
	if p[n].End != end {
		return api.ErrState
	}
	if to <= p[n].Start || to >= end {
		return api.ErrArg
	}
	p[n].End = to
	return api.OK
}

func (p *plain) drop(key string, start int) api.Errno {
	n := p.place(key, start)
	if n < 0 {
		return api.ErrNone
	}
	*p = slices.Delete(*p, n, n+1)
	return api.OK
}

// those is the items of which something is so, in order.
func (p plain) those(so func(index.Item) bool) []index.Item {
	var l []index.Item
	for _, i := range p {
		if so(i) {
			l = append(l, i)
		}
	}
	slices.SortFunc(l, func(a, b index.Item) int {
		if n := bytes.Compare([]byte(a.Key), []byte(b.Key)); n != 0 {
			return n
		}
		return a.Start - b.Start
	})
	return l
}

func (p plain) all() []index.Item {
	return p.those(func(index.Item) bool { return true })
}

func (p plain) greatest() int {
	n := 0
	for _, i := range p {
		n = max(n, i.End)
	}
	return n
}

func among(i index.Item, lo, hi string) bool {
	return bytes.Compare([]byte(lo), []byte(i.Key)) <= 0 && (hi == "" || bytes.Compare([]byte(i.Key), []byte(hi)) < 0)
}

func (p plain) stab(lo, hi string, t int) []index.Item {
	return p.those(func(i index.Item) bool { return among(i, lo, hi) && i.Start <= t && t < i.End })
}

func (p plain) overlap(lo, hi string, s api.Span) []index.Item {
	return p.those(func(i index.Item) bool {
		return among(i, lo, hi) && s.From < s.To && max(s.From, i.Start) < min(s.To, i.End)
	})
}

func keys() []string {
	return []string{"", "\x00", "\x00\x00", "A", "a", "a\x00", "aa", "ab", "b", "\x7f", "\x80", "\xc3\xa9", "\xff", "\xff\x00", "\xff\xff"}
}

// state holds all that an index tells of itself against the plain items.
func (p plain) state(t *testing.T, x *index.Index, width int) {
	t.Helper()
	check(t, "all", x.All(), p.all()...)
	if x.Max() != p.greatest() {
		t.Errorf("greatest end %d, not %d", x.Max(), p.greatest())
	}
	checkBlocks(t, x, width, len(p))
}

// asked holds some of what can be asked of an index against the plain items.
func (p plain) asked(t *testing.T, c *chance, x *index.Index, times []int) {
	t.Helper()
	lo, hi := one(c, keys()), one(c, keys())
	if c.below(3) == 0 {
		lo, hi = "", ""
	}
	at := one(c, times)
	check(t, "stab", x.Stab(lo, hi, at), p.stab(lo, hi, at)...)
	s := api.Span{From: one(c, times), To: one(c, times)}
	check(t, "overlap", x.Overlap(lo, hi, s), p.overlap(lo, hi, s)...)
	i := index.Item{Key: one(c, keys()), Start: one(c, times)}
	if n := p.place(i.Key, i.Start); n >= 0 {
		checkGet(t, x, i.Key, i.Start, p[n], api.OK)
	} else {
		checkGet(t, x, i.Key, i.Start, index.Item{}, api.ErrNone)
	}
}

// TestMixed: long rows of all calls, in which items come more often than they go, and then go more often.
func TestMixed(t *testing.T) { // P13.1, P13.2, P13.3, P13.4, P13.5
	var near []int
	for n := range 40 {
		near = append(near, n-1)
	}
	edges := []int{-1, 0, 1, 2, 9, 1000, end - 2, end - 1, end, end + 1}
	for _, times := range [][]int{near, edges} {
		for _, width := range []int{2, 3, 5, 10, 100} {
			c := chance(width)
			x := newIndex(t, width)
			var p plain
			for step := range 3000 {
				i := item(one(&c, keys()), one(&c, times), one(&c, append(times, end)), step)
				switch kind := c.below(10); {
				case kind == 0:
					checkError(t, "close", x.Close(i.Key, i.Start, i.End), p.close(i.Key, i.Start, i.End))
				case (kind < 7) == (step%1000 < 600):
					checkError(t, "insert", x.Insert(i), p.insert(i))
				default:
					checkError(t, "delete", x.Delete(i.Key, i.Start), p.drop(i.Key, i.Start))
				}
				p.state(t, x, width)
				p.asked(t, &c, x, times)
			}
			if t.Failed() {
				t.Fatalf("width %d", width)
			}
		}
	}
}

// TestAllRows: each row of so many inserts and deletes among a few items.
func TestAllRows(t *testing.T) { // P13.4, P13.5
	const items, steps = 6, 7
	rows := 1
	for range steps {
		rows *= items
	}
	for n := range rows {
		x := newIndex(t, 2)
		there := 0
		var in [items]bool
		for left, step := n, 0; step < steps; left, step = left/items, step+1 {
			k := left % items
			if in[k] {
				checkError(t, "delete", x.Delete("k", k), api.OK)
				there--
			} else {
				checkError(t, "insert", x.Insert(item("k", k, end-k, k)), api.OK)
				there++
			}
			in[k] = !in[k]
			checkBlocks(t, x, 2, there)
		}
		var want []index.Item
		for k := range in {
			if in[k] {
				want = append(want, item("k", k, end-k, k))
			}
		}
		check(t, "all", x.All(), want...)
	}
}

// TestTimes: each item is found at just the times that it has, by each key and span about it.
func TestTimes(t *testing.T) { // P13.3, P13.5
	const last = 7
	for _, width := range []int{2, 3} {
		x := newIndex(t, width)
		var p plain
		for from := range last {
			for to := from + 1; to <= last; to++ {
				i := item(key(to), from, to, from*10+to)
				checkError(t, "insert", x.Insert(i), p.insert(i))
			}
		}
		for n := 0; len(p) > 0; n++ {
			for from := -1; from <= last+1; from++ {
				check(t, "stab", x.Stab("", "", from), p.stab("", "", from)...)
				check(t, "stab", x.Stab(key(3), key(6), from), p.stab(key(3), key(6), from)...)
				for to := -1; to <= last+1; to++ {
					s := api.Span{From: from, To: to}
					check(t, "overlap", x.Overlap("", "", s), p.overlap("", "", s)...)
					check(t, "overlap", x.Overlap(key(3), key(6), s), p.overlap(key(3), key(6), s)...)
				}
			}
			gone := p[n*5%len(p)]
			checkError(t, "delete", x.Delete(gone.Key, gone.Start), p.drop(gone.Key, gone.Start))
		}
	}
}
