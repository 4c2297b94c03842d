package index_test

import (
	"math"
	"slices"
	"strings"
	"testing"
	"unsafe"

	"memoir/api"
	"memoir/index"
)

const end = api.MaxTime

func item(key string, start, end, id int) index.Item {
	return index.Item{Key: key, Start: start, End: end, Id: id}
}

func newIndex(t *testing.T, width int) *index.Index {
	t.Helper()
	x, e := index.New(width)
	if x == nil || e != api.OK {
		t.Fatalf("width %d: error %d", width, e)
	}
	return x
}

// filled is an index of a width to which these items were given, in this order.
func filled(t *testing.T, width int, l ...index.Item) *index.Index {
	t.Helper()
	x := newIndex(t, width)
	for _, i := range l {
		checkError(t, "insert", x.Insert(i), api.OK)
	}
	return x
}

func checkError(t *testing.T, what string, got, want api.Errno) {
	t.Helper()
	if got != want {
		t.Errorf("%s: %d, not %d", what, got, want)
	}
}

func check(t *testing.T, what string, got []index.Item, want ...index.Item) {
	t.Helper()
	if !slices.Equal(got, want) {
		t.Errorf("%s: %v, not %v", what, got, want)
	}
}

func checkGet(t *testing.T, x *index.Index, key string, start int, want index.Item, e api.Errno) {
	t.Helper()
	if got, err := x.Get(key, start); got != want || err != e {
		t.Errorf("get of %q at %d: %v, %d, not %v, %d", key, start, got, err, want, e)
	}
}

// some is items of several keys, in order.
func some() []index.Item {
	return []index.Item{
		item("", 3, 4, 1), item("\x00", 0, end, 2), item("A", 2, 5, 3), item("a", 0, 3, 4), item("a", 3, end, 5),
		item("a\x00", 1, 2, 6), item("ab", 0, 9, 7), item("b", end-1, end, 8), item("\xc3\xa9", 5, 7, 9), item("\xff", 0, 1, 10), item("\xff\xff", 0, 1, 10),
	}
}

func TestExample(t *testing.T) { // P13.3
	x := filled(t, 2, item("a", 3, end, 1), item("a", 0, 3, 2))
	check(t, "stab", x.Stab("", "", 2), item("a", 0, 3, 2))
}

func TestNew(t *testing.T) { // P13.1
	for _, width := range []int{2, 3, 50, 99, 100} {
		x := newIndex(t, width)
		if len(x.All()) != 0 || x.Len() != 0 || x.Max() != 0 || len(x.Blocks()) != 0 {
			t.Errorf("width %d: %v, %d, %d, %v", width, x.All(), x.Len(), x.Max(), x.Blocks())
		}
		check(t, "stab of nothing", x.Stab("", "", 0))
		check(t, "overlap of nothing", x.Overlap("", "", api.Span{From: 0, To: end}))
		checkError(t, "close of nothing", x.Close("", 0, 1), api.ErrNone)
		checkError(t, "delete of nothing", x.Delete("", 0), api.ErrNone)
		checkGet(t, x, "", 0, index.Item{}, api.ErrNone)
	}
	for _, width := range []int{math.MinInt, -2, -1, 0, 1, 101, 102, 1 << 32, math.MaxInt} {
		if x, e := index.New(width); x != nil || e != api.ErrArg {
			t.Errorf("width %d: %v, %d", width, x, e)
		}
	}
}

func TestApart(t *testing.T) { // P13.1
	a, b := newIndex(t, 2), newIndex(t, 2)
	checkError(t, "insert", a.Insert(item("a", 1, 2, 3)), api.OK)
	if b.Len() != 0 || a.Len() != 1 {
		t.Errorf("%d and %d items", a.Len(), b.Len())
	}
}

func TestAll(t *testing.T) { // P13.1
	turned := some()
	slices.Reverse(turned)
	for _, width := range []int{2, 3, 100} {
		for _, l := range [][]index.Item{some(), turned} {
			x := filled(t, width, l...)
			check(t, "all", x.All(), some()...)
			if x.Len() != len(l) {
				t.Errorf("%d items, not %d", x.Len(), len(l))
			}
		}
	}
}

func TestMax(t *testing.T) { // P13.1
	x := newIndex(t, 2)
	checkMax := func(want int) {
		t.Helper()
		if x.Max() != want {
			t.Errorf("greatest end %d, not %d", x.Max(), want)
		}
	}
	for _, c := range []struct {
		i    index.Item
		want int
	}{
		{item("k", 3, 5, 0), 5}, {item("k", 1, 2, 0), 5}, {item("j", 4, 6, 0), 6}, {item("l", 0, 6, 0), 6},
		{item("k", 7, 9, 0), 9}, {item("k", 0, 1, 0), 9}, {item("", 0, end-1, 0), end - 1}, {item("k", 2, end, 0), end}, {item("m", 8, end, 0), end},
	} {
		checkError(t, "insert", x.Insert(c.i), api.OK)
		checkMax(c.want)
	}
	checkError(t, "close", x.Close("k", 2, 10), api.OK)
	checkMax(end)
	checkError(t, "delete", x.Delete("m", 8), api.OK)
	checkMax(end - 1)
	checkError(t, "delete", x.Delete("", 0), api.OK)
	checkMax(10)
	checkError(t, "delete", x.Delete("k", 2), api.OK)
	checkMax(9)
	for _, start := range []int{7, 3, 1, 0} {
		checkError(t, "delete", x.Delete("k", start), api.OK)
		checkMax(6)
	}
	checkError(t, "delete", x.Delete("l", 0), api.OK)
	checkMax(6)
	checkError(t, "delete", x.Delete("j", 4), api.OK)
	checkMax(0)
}

func TestInsert(t *testing.T) { // P13.2
	for _, width := range []int{2, 100} {
		x := filled(t, width, some()...)
		for _, i := range some() {
			checkGet(t, x, i.Key, i.Start, i, api.OK)
			checkError(t, "the same once more", x.Insert(i), api.ErrTwice)
			checkError(t, "one of this key and start", x.Insert(item(i.Key, i.Start, i.Start+1, 99)), api.ErrTwice)
			checkError(t, "one of this key and start", x.Insert(item(i.Key, i.Start, end, i.Id)), api.ErrTwice)
		}
		for _, i := range wrong("a", 0) {
			checkError(t, "one that is not right, of a key and start that are there", x.Insert(i), api.ErrArg)
		}
		for _, i := range wrong("new", 4) {
			checkError(t, "one that is not right", x.Insert(i), api.ErrArg)
		}
		check(t, "what was there", x.All(), some()...)
		for _, i := range []index.Item{item("a", 1, 2, 4), item("a", end-1, end, math.MinInt), item("a", 2, end-1, math.MaxInt), item("aa", 0, end, 0)} {
			checkError(t, "insert", x.Insert(i), api.OK)
			checkGet(t, x, i.Key, i.Start, i, api.OK)
		}
	}
}

// wrong is items of a key that are not right, some of them with this start.
func wrong(key string, start int) []index.Item {
	return []index.Item{
		item(key, -1, 5, 1), item(key, -1, end, 1), item(key, -1, -1, 1), item(key, -2, -1, 1), item(key, math.MinInt, math.MaxInt, 1), item(key, math.MinInt, end, 1),
		item(key, start, start, 1), item(key, start, start-1, 1), item(key, start, -1, 1), item(key, start, math.MinInt, 1),
		item(key, start, end+1, 1), item(key, start, math.MaxInt, 1),
		item(key, end, end, 1), item(key, end, end+1, 1), item(key, end+1, end, 1), item(key, math.MaxInt, math.MaxInt, 1), item(key, math.MaxInt, math.MinInt, 1),
	}
}

func TestClose(t *testing.T) { // P13.2
	x := filled(t, 2, item("a", 0, 5, 1), item("a", 5, end, 2), item("ab", 5, end, 3), item("b", end-2, end, 4), item("c", end-1, end, 5))
	for _, c := range []struct {
		key        string
		start, end int
		want       api.Errno
	}{
		{"", 5, 6, api.ErrNone}, {"d", 5, 6, api.ErrNone}, {"a", 1, 6, api.ErrNone}, {"a", 4, end, api.ErrNone}, {"a", 6, 1, api.ErrNone}, {"a", -1, 6, api.ErrNone}, {"ab", 0, 6, api.ErrNone},
		{"a", math.MinInt, 6, api.ErrNone}, {"c", math.MaxInt, 6, api.ErrNone},
		{"a", 0, 6, api.ErrState}, {"a", 0, 5, api.ErrState}, {"a", 0, 0, api.ErrState}, {"a", 0, end, api.ErrState},
		{"a", 5, 5, api.ErrArg}, {"a", 5, 4, api.ErrArg}, {"a", 5, 0, api.ErrArg}, {"a", 5, -1, api.ErrArg}, {"a", 5, math.MinInt, api.ErrArg},
		{"a", 5, end, api.ErrArg}, {"a", 5, end + 1, api.ErrArg}, {"a", 5, math.MaxInt, api.ErrArg}, {"c", end - 1, end, api.ErrArg}, {"c", end - 1, end - 1, api.ErrArg},
	} {
		if e := x.Close(c.key, c.start, c.end); e != c.want {
			t.Errorf("close of %q at %d by %d: %d, not %d", c.key, c.start, c.end, e, c.want)
		}
	}
	check(t, "what was there", x.All(), item("a", 0, 5, 1), item("a", 5, end, 2), item("ab", 5, end, 3), item("b", end-2, end, 4), item("c", end-1, end, 5))

	checkError(t, "close", x.Close("a", 5, 6), api.OK)
	checkError(t, "close", x.Close("b", end-2, end-1), api.OK)
	checkError(t, "close of a closed one", x.Close("a", 5, 7), api.ErrState)
	checkError(t, "close of a closed one", x.Close("b", end-2, end-1), api.ErrState)
	check(t, "what is there", x.All(), item("a", 0, 5, 1), item("a", 5, 6, 2), item("ab", 5, end, 3), item("b", end-2, end-1, 4), item("c", end-1, end, 5))
	check(t, "what has its last time", x.Stab("", "", 5), item("a", 5, 6, 2), item("ab", 5, end, 3))
	check(t, "what has its end", x.Stab("", "", 6), item("ab", 5, end, 3))
}

func TestDelete(t *testing.T) { // P13.2
	for _, width := range []int{2, 100} {
		for n, gone := range some() {
			x := filled(t, width, some()...)
			checkError(t, "delete", x.Delete(gone.Key, gone.Start), api.OK)
			check(t, "what is left", x.All(), slices.Delete(some(), n, n+1)...)
			if x.Len() != len(some())-1 {
				t.Errorf("%d items", x.Len())
			}
			checkGet(t, x, gone.Key, gone.Start, index.Item{}, api.ErrNone)
			checkError(t, "delete once more", x.Delete(gone.Key, gone.Start), api.ErrNone)
			checkError(t, "close", x.Close(gone.Key, gone.Start, end-1), api.ErrNone)
			again := item(gone.Key, gone.Start, end, 77)
			checkError(t, "insert once more", x.Insert(again), api.OK)
			checkGet(t, x, gone.Key, gone.Start, again, api.OK)
		}
	}
}

func TestNone(t *testing.T) { // P13.2
	x := filled(t, 2, some()...)
	for _, c := range []struct {
		key   string
		start int
	}{{"", 0}, {"", 2}, {"", 4}, {"a", 1}, {"a", 2}, {"a", 4}, {"a", -1}, {"a\x00", 0}, {"aa", 0}, {"ab", 9}, {"b", end}, {"b", 0}, {"c", 0}, {"\xff\xff\xff", 0}, {"a", math.MinInt}, {"b", math.MaxInt}} {
		checkGet(t, x, c.key, c.start, index.Item{}, api.ErrNone)
		checkError(t, "delete", x.Delete(c.key, c.start), api.ErrNone)
		checkError(t, "close", x.Close(c.key, c.start, end), api.ErrNone)
	}
	check(t, "what was there", x.All(), some()...)
}

// TestOther: nil ones, and those that New did not give.
func TestOther(t *testing.T) { // P13.1, P13.2, P13.3, P13.4, R1
	copied := *filled(t, 2, some()...)
	for _, x := range []*index.Index{nil, {}, new(index.Index), &copied} {
		checkError(t, "insert", x.Insert(item("new", 1, 2, 3)), api.ErrNil)
		checkError(t, "insert of what is not right", x.Insert(item("new", 2, 2, 3)), api.ErrNil)
		checkError(t, "insert of what is there", x.Insert(item("a", 0, 3, 4)), api.ErrNil)
		checkError(t, "close", x.Close("a", 3, 4), api.ErrNil)
		checkError(t, "close of nothing", x.Close("a", 2, 2), api.ErrNil)
		checkError(t, "delete", x.Delete("a", 3), api.ErrNil)
		checkGet(t, x, "a", 3, index.Item{}, api.ErrNil)
		check(t, "stab", x.Stab("", "", 3))
		check(t, "overlap", x.Overlap("", "", api.Span{From: 0, To: end}))
		check(t, "all", x.All())
		if x.Len() != 0 || x.Max() != 0 || len(x.Blocks()) != 0 {
			t.Errorf("%d, %d, %v", x.Len(), x.Max(), x.Blocks())
		}
	}
}

// TestMemory: what is told, or handed in, is not what the index keeps.
func TestMemory(t *testing.T) { // R4
	bytes := []byte("a")
	x := filled(t, 2, item("b", 3, 5, 1), item(unsafe.String(&bytes[0], 1), 3, 5, 2), item("c", 4, end, 3))
	bytes[0] = 'z'
	want := []index.Item{item("a", 3, 5, 2), item("b", 3, 5, 1), item("c", 4, end, 3)}
	check(t, "all", x.All(), want...)
	for range 2 {
		for _, l := range [][]index.Item{x.All(), x.Stab("", "", 4), x.Overlap("", "", api.Span{From: 0, To: 9})} {
			check(t, "told", l, want...)
			for i := range l {
				*unsafe.StringData(l[i].Key) = 'y'
			}
			scribble(l, item("x", 0, 1, 9))
		}
		i, _ := x.Get("a", 3)
		*unsafe.StringData(i.Key) = 'y'
		scribble(x.Blocks(), 99)
	}
	check(t, "all", x.All(), want...)
	if l := x.Blocks(); !slices.Equal(l, []int{3}) {
		t.Error(l)
	}
	one, two := x.All(), x.All()
	scribble(one, index.Item{})
	check(t, "another answer", two, want...)
}

// scribble writes over a list and the room behind it.
func scribble[T any](l []T, t T) {
	l = l[:cap(l)]
	for i := range l {
		l[i] = t
	}
}

// TestMany: many items, few in each block, and a long key.
func TestMany(t *testing.T) { // P13.1, P13.2, P13.3, R1
	const n = 100000
	for _, width := range []int{2, 100} {
		x := newIndex(t, width)
		for i := range n {
			start := i * 7919 % n
			checkError(t, "insert", x.Insert(item("k", start, start+1, i)), api.OK)
		}
		for start := range 100 {
			check(t, "stab", x.Stab("", "", start*997), item("k", start*997, start*997+1, start*997*17679%n))
		}
		if x.Len() != n || x.Max() != n || len(x.All()) != n {
			t.Errorf("%d items, up to %d", x.Len(), x.Max())
		}
		for i := range n {
			checkError(t, "delete", x.Delete("k", i*31%n), api.OK)
		}
		if x.Len() != 0 || len(x.Blocks()) != 0 {
			t.Errorf("%d items", x.Len())
		}
	}
	long := strings.Repeat("k", 1<<20)
	x := filled(t, 2, item(long+"b", 1, 2, 3), item(long, 1, 2, 4), item(long+"a", 1, 2, 5))
	check(t, "long keys", x.Stab(long+"a", long+"b", 1), item(long+"a", 1, 2, 5))
}
