package index_test

import (
	"math"
	"testing"

	"memoir/api"
	"memoir/index"
)

func TestStab(t *testing.T) { // P13.3
	for _, width := range []int{2, 100} {
		x := filled(t, width, some()...)
		for _, c := range []struct {
			lo, hi string
			t      int
			want   []int // their places among some
		}{
			{"", "", 0, []int{1, 3, 6, 9, 10}},
			{"", "", 1, []int{1, 3, 5, 6}},
			{"", "", 2, []int{1, 2, 3, 6}},
			{"", "", 3, []int{0, 1, 2, 4, 6}},
			{"", "", 4, []int{1, 2, 4, 6}},
			{"", "", 8, []int{1, 4, 6}},
			{"", "", 9, []int{1, 4}},
			{"", "", end - 2, []int{1, 4}},
			{"", "", end - 1, []int{1, 4, 7}},
			{"", "", end, nil}, {"", "", end + 1, nil}, {"", "", math.MaxInt, nil}, {"", "", -1, nil}, {"", "", math.MinInt, nil},
			{"a", "b", 3, []int{4, 6}},
			{"a", "a\x00", 3, []int{4}},
			{"a", "a\x00", 2, []int{3}},
			{"a\x00", "", 3, []int{6}},
			{"a\x00", "ab", 1, []int{5}},
			{"", "a", 3, []int{0, 1, 2}},
			{"", "\x00", 3, []int{0}},
			{"\x00", "A", 3, []int{1}},
			{"B", "a", 3, nil},
			{"B", "aa", 3, []int{4}},
			{"\xff", "", 0, []int{9, 10}},
			{"\xff", "\xff\xff", 0, []int{9}},
			{"\xff\xff", "", 0, []int{10}},
			{"\xff\xff\xff", "", 0, nil},
			{"\xc3", "\xc4", 6, []int{8}},
			{"a", "a", 3, nil}, {"b", "a", 3, nil}, {"\xff", "a", 0, nil}, {"b", "\x00", end - 1, nil},
		} {
			var want []index.Item
			for _, n := range c.want {
				want = append(want, some()[n])
			}
			check(t, "stab", x.Stab(c.lo, c.hi, c.t), want...)
		}
	}
}

func TestOverlap(t *testing.T) { // P13.3
	for _, width := range []int{2, 100} {
		x := filled(t, width, some()...)
		for _, c := range []struct {
			lo, hi   string
			from, to int
			want     []int // their places among some
		}{
			{"", "", 0, end, []int{0, 1, 2, 3, 4, 5, 6, 7, 8, 9, 10}},
			{"", "", math.MinInt, math.MaxInt, []int{0, 1, 2, 3, 4, 5, 6, 7, 8, 9, 10}},
			{"", "", 0, 1, []int{1, 3, 6, 9, 10}},
			{"", "", -1, 1, []int{1, 3, 6, 9, 10}},
			{"", "", math.MinInt, 1, []int{1, 3, 6, 9, 10}},
			{"", "", math.MinInt, 0, nil}, {"", "", -1, 0, nil}, {"", "", math.MinInt, math.MinInt + 1, nil},
			{"", "", 2, 3, []int{1, 2, 3, 6}},
			{"", "", 2, 4, []int{0, 1, 2, 3, 4, 6}},
			{"", "", 3, 5, []int{0, 1, 2, 4, 6}},
			{"", "", 5, 6, []int{1, 4, 6, 8}},
			{"", "", 9, 10, []int{1, 4}},
			{"", "", end - 1, end, []int{1, 4, 7}},
			{"", "", end - 1, math.MaxInt, []int{1, 4, 7}},
			{"", "", end, math.MaxInt, nil}, {"", "", end, end + 1, nil}, {"", "", math.MaxInt - 1, math.MaxInt, nil},
			{"", "", 3, 3, nil}, {"", "", 4, 3, nil}, {"", "", 0, 0, nil}, {"", "", end, 0, nil}, {"", "", end, end, nil},
			{"", "", math.MaxInt, math.MinInt, nil}, {"", "", math.MinInt, math.MinInt, nil}, {"", "", math.MaxInt, math.MaxInt, nil},
			{"a", "b", 2, 4, []int{3, 4, 6}},
			{"a", "a\x00", 1, 2, []int{3}},
			{"a\x00", "ab", 0, 2, []int{5}},
			{"a\x00", "ab", 2, end, nil},
			{"b", "", 0, end - 1, []int{8, 9, 10}},
			{"", "A", 3, 4, []int{0, 1}},
			{"a", "a", 0, end, nil}, {"b", "a", 0, end, nil},
		} {
			var want []index.Item
			for _, n := range c.want {
				want = append(want, some()[n])
			}
			check(t, "overlap", x.Overlap(c.lo, c.hi, api.Span{From: c.from, To: c.to}), want...)
		}
	}
}

// TestFirstBlock: the items from a key on begin in any block, and at any place of it.
func TestFirstBlock(t *testing.T) { // P13.3
	for _, width := range []int{2, 3} {
		x := newIndex(t, width)
		for n := range 40 {
			checkError(t, "insert", x.Insert(item(key(n/2), 1+n%2, 9, n)), api.OK)
		}
		for lo := range 20 {
			for hi := range 21 {
				var want []index.Item
				for n := 2 * lo; n < 2*hi; n++ {
					want = append(want, item(key(n/2), 1+n%2, 9, n))
				}
				check(t, "stab", x.Stab(key(lo), key(hi), 5), want...)
			}
		}
	}
}

// key is the n-th one of rising keys.
func key(n int) string {
	return string([]byte{byte('a' + n/26), byte('a' + n%26)})
}

// TestLongAgo: what ended is not told later, nor does it hide what has not ended.
func TestLongAgo(t *testing.T) { // P13.3, P13.4
	x := newIndex(t, 2)
	for n := range 60 {
		checkError(t, "insert", x.Insert(item("k", n, end, n)), api.OK)
	}
	for n := range 60 {
		if n%7 != 0 {
			checkError(t, "close", x.Close("k", n, n+1), api.OK)
		}
	}
	for at := range 80 {
		var want []index.Item
		for n := 0; n < 60 && n <= at; n++ {
			if n%7 == 0 {
				want = append(want, item("k", n, end, n))
			} else if n == at {
				want = append(want, item("k", n, n+1, n))
			}
		}
		check(t, "stab", x.Stab("", "", at), want...)
	}
}

// checkBlocks holds the blocks against the words of P13.4.
func checkBlocks(t *testing.T, x *index.Index, width, items int) {
	t.Helper()
	l := x.Blocks()
	sum := 0
	for i, n := range l {
		sum += n
		if n < 1 || n > 2*width || i > 0 && l[i-1]+n <= width {
			t.Errorf("width %d: blocks %v", width, l)
			return
		}
	}
	if sum != items || x.Len() != items {
		t.Errorf("width %d: %d items in blocks, %d in all, not %d", width, sum, x.Len(), items)
	}
}

// TestBlocks: rows of items that grow and dwindle at each of their ends, and everywhere.
func TestBlocks(t *testing.T) { // P13.4
	const n = 500
	orders := []func(int) int{
		func(i int) int { return i },
		func(i int) int { return n - 1 - i },
		func(i int) int { return i * 37 % n },
		func(i int) int { return i * 251 % n },
		func(i int) int { return (i%2)*(n-1) + (1-2*(i%2))*(i/2) },
	}
	for _, width := range []int{2, 3, 4, 7, 50, 99, 100} {
		for _, come := range orders {
			for _, goes := range orders {
				x := newIndex(t, width)
				for i := range n {
					checkError(t, "insert", x.Insert(item("k", come(i), end, i)), api.OK)
					checkBlocks(t, x, width, i+1)
				}
				for i := range n {
					checkError(t, "delete", x.Delete("k", goes(i)), api.OK)
					checkBlocks(t, x, width, n-1-i)
				}
			}
		}
	}
}

// TestBlocksStay: what changes no item, or its end alone, changes no block.
func TestBlocksStay(t *testing.T) { // P13.4
	x := filled(t, 2, some()...)
	before := x.Blocks()
	x.Insert(some()[3])
	x.Insert(item("a", 3, 3, 3))
	x.Delete("a", 1)
	x.Close("a", 0, 9)
	x.Close("a", 3, 9)
	after := x.Blocks()
	if len(before) != len(after) {
		t.Fatalf("%v, not %v", after, before)
	}
	for i := range before {
		if before[i] != after[i] {
			t.Errorf("%v, not %v", after, before)
		}
	}
}
