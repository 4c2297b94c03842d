package frame_test

import (
	"math"
	"slices"
	"strings"
	"testing"

	"memoir/api"
	"memoir/frame"
)

func integer(n int) api.Value    { return api.Value{Kind: api.Int, N: n} }
func boolean(n int) api.Value    { return api.Value{Kind: api.Bool, N: n} }
func bits(n uint64) api.Value    { return api.Value{Kind: api.Float, Bits: n} }
func bytesOf(s string) api.Value { return api.Value{Kind: api.Bytes, S: s} }
func textOf(s string) api.Value  { return api.Value{Kind: api.Text, S: s} }

// put is a change that lays a row.
func put(row ...api.Value) api.Change {
	return api.Change{Op: api.OpPut, Table: "t", Row: row, Valid: api.Span{From: 3, To: 200}}
}

// drop is a change that takes a key away.
func drop(row ...api.Value) api.Change {
	c := put(row...)
	c.Op = api.OpDrop
	return c
}

// define is a change that adds a table of some columns, the first of which is its key.
func define(name string, cols ...string) api.Change {
	s := api.Schema{Name: name, Keys: 1}
	for i, c := range cols {
		s.Cols = append(s.Cols, api.Column{Name: c, Kind: 1 + i%5, Need: i == 0})
	}
	return api.Change{Op: api.OpTable, Table: name, Def: s}
}

// txn is a transaction of some changes.
func txn(l ...api.Change) api.Txn {
	return api.Txn{Seq: 300, Time: 7, Changes: l}
}

// rightValues is values of each kind.
func rightValues() []api.Value {
	return []api.Value{
		{}, boolean(0), boolean(1), integer(0), integer(-1), integer(300), integer(math.MinInt), integer(math.MaxInt),
		bits(0), bits(0x3ff0 << 48), bits(0x7ff8 << 48), bits(0xfff0 << 48),
		bytesOf(""), bytesOf("a\x00"), bytesOf(strings.Repeat("b", api.MaxText)), textOf(""), textOf("\xff"), textOf(strings.Repeat("\x00", api.MaxText)),
	}
}

// wrongValues is values that are not right.
func wrongValues() []api.Value {
	over := strings.Repeat("a", api.MaxText+1)
	return []api.Value{
		{N: 1}, {Bits: 1}, {S: "a"}, {Kind: -1}, {Kind: 6}, {Kind: 256}, boolean(2), boolean(-1), {Kind: api.Bool, S: "a"}, {Kind: api.Int, N: 1, Bits: 1}, {Kind: api.Int, S: "1"},
		bits(1 << 63), bits(0x7ff8<<48 + 1), bits(math.MaxUint64), {Kind: api.Float, N: 1}, bytesOf(over), {Kind: api.Bytes, N: 1}, textOf(over), {Kind: api.Text, S: "a", Bits: 1},
	}
}

func rightSpans() []api.Span {
	return []api.Span{{From: 0, To: 1}, {From: 3, To: 200}, {From: 0, To: api.MaxTime}, {From: 1 << 39, To: 1<<39 + 1}, {From: api.MaxTime - 1, To: api.MaxTime}}
}

func wrongSpans() []api.Span {
	return []api.Span{
		{}, {From: 5, To: 5}, {From: 5, To: 4}, {From: -1, To: 0}, {From: -1, To: 5}, {From: 0, To: -1}, {From: 0, To: api.MaxTime + 1}, {From: api.MaxTime - 1, To: api.MaxTime + 1},
		{From: api.MaxTime, To: api.MaxTime}, {From: api.MaxTime, To: api.MaxTime + 1}, {From: api.MaxTime + 1, To: api.MaxTime}, {From: math.MinInt, To: math.MaxInt}, {From: math.MinInt, To: 5}, {From: 0, To: math.MaxInt}, {From: math.MaxInt, To: math.MinInt},
	}
}

func wrongNames() []string {
	return []string{"", "1a", "A", "aB", "a b", "a-", "a.", "\x00", "t\x00", "\xc3\xa9", "t\xff", strings.Repeat("a", 33)}
}

// checkChange sees whether a change may be, and with it whether a transaction that has it is right, wherever it stands.
func checkChange(t *testing.T, c api.Change, want bool) {
	t.Helper()
	if frame.Change(c) != want {
		t.Errorf("%s: not %v", show(c), want)
	}
	for _, x := range []api.Txn{txn(c), txn(c, put(integer(1))), txn(put(integer(1)), c), txn(define("u", "a"), c, drop(integer(1)))} {
		if frame.Right(x) != want || (frame.Body(x) != "") != want || (frame.Encode(x) != "") != want {
			t.Errorf("%s: a transaction of it is not %v", show(c), want)
		}
	}
}

// rowChanges is a put and a drop of a row.
func rowChanges() []api.Change {
	return []api.Change{put(integer(5), textOf("at")), drop(integer(5), textOf("at"))}
}

func TestChangeRow(t *testing.T) { // P6.1
	for n := range 20 {
		row := slices.Repeat([]api.Value{integer(7)}, n)
		checkChange(t, put(row...), n >= 1 && n <= 16)
		checkChange(t, drop(row...), n >= 1 && n <= 8)
	}
	for _, n := range []int{100, 256 + 4, 1<<16 + 1} {
		checkChange(t, put(make([]api.Value, n)...), false)
		checkChange(t, drop(make([]api.Value, n)...), false)
	}
	for i := range 16 {
		row := slices.Repeat([]api.Value{integer(7)}, i+1)
		for _, v := range rightValues() {
			row[i] = v
			checkChange(t, put(row...), true)
			checkChange(t, drop(row...), i < 8)
		}
		for _, v := range wrongValues() {
			row[i] = v
			checkChange(t, put(row...), false)
			checkChange(t, drop(row...), false)
			checkChange(t, put(append([]api.Value{v}, row[:i]...)...), false)
			checkChange(t, drop(append([]api.Value{v}, row[:i]...)...), false)
		}
	}
}

func TestChangeParts(t *testing.T) { // P6.1
	for _, c := range rowChanges() {
		checkChange(t, c, true)
		for _, s := range []string{"a", "_", "t_1", strings.Repeat("z", 32)} {
			c.Table = s
			checkChange(t, c, true)
		}
		for _, s := range wrongNames() {
			c.Table = s
			checkChange(t, c, false)
		}
	}
	for _, c := range rowChanges() {
		for _, s := range rightSpans() {
			c.Valid = s
			checkChange(t, c, true)
		}
		for _, s := range wrongSpans() {
			c.Valid = s
			checkChange(t, c, false)
		}
	}
	for _, c := range rowChanges() {
		for _, s := range []api.Schema{{Name: "t"}, {Keys: 1}, {Keys: -1}, {Cols: make([]api.Column, 1)}, {Cols: []api.Column{{Name: "a", Kind: 2, Need: true}}}, define("t", "a").Def} {
			c.Def = s
			checkChange(t, c, false)
		}
		c.Def = api.Schema{Cols: []api.Column{}}
		checkChange(t, c, true)
	}
}

func TestChangeOp(t *testing.T) { // P6.1
	for _, n := range []int{0, -1, -2, 4, 5, 255, 257, 258, 259, 1<<32 + 1, 1<<32 + 3, math.MinInt, math.MinInt + 1, math.MaxInt} {
		for _, c := range append(rowChanges(), define("t", "a"), api.Change{}) {
			c.Op = n
			checkChange(t, c, false)
		}
	}
	c := put(integer(1))
	c.Op = api.OpTable
	checkChange(t, c, false)
	for _, op := range []int{api.OpPut, api.OpDrop} {
		c := define("t", "a")
		c.Op = op
		checkChange(t, c, false)
		checkChange(t, api.Change{Op: op}, false)
	}
	checkChange(t, api.Change{}, false)
	checkChange(t, api.Change{Op: api.OpTable}, false)
}

func TestChangeTable(t *testing.T) { // P6.1
	long := strings.Repeat("z", 32)
	var names []string
	for i := range 16 {
		names = append(names, "c"+string(rune('a'+i)))
	}
	for _, c := range []api.Change{define("t", "a"), define("t", "t"), define(long, long), define("_", names...)} {
		checkChange(t, c, true)
		c.Row = []api.Value{}
		checkChange(t, c, true)
	}
	for i, spoil := range []func(c *api.Change){
		func(c *api.Change) { c.Table = "u" },
		func(c *api.Change) { c.Table = "" },
		func(c *api.Change) { c.Table = "tt" },
		func(c *api.Change) { c.Def.Name = "u" },
		func(c *api.Change) { c.Def.Name, c.Table = "", "" },
		func(c *api.Change) { c.Def.Name, c.Table = "1", "1" },
		func(c *api.Change) { c.Def.Keys = 0 },
		func(c *api.Change) { c.Def.Keys = 3 },
		func(c *api.Change) { c.Def.Keys = 2 },
		func(c *api.Change) { c.Def.Cols = nil },
		func(c *api.Change) { c.Def.Cols = make([]api.Column, 1) },
		func(c *api.Change) { c.Def.Cols[0].Need = false },
		func(c *api.Change) { c.Def.Cols[0].Kind = 0 },
		func(c *api.Change) { c.Def.Cols[1].Kind = 6 },
		func(c *api.Change) { c.Def.Cols[1].Name = "a" },
		func(c *api.Change) { c.Def.Cols[1].Name = "B" },
		func(c *api.Change) { c.Def = define("t", append(names, "more")...).Def },
		func(c *api.Change) { c.Def = api.Schema{} },
		func(c *api.Change) { c.Row = make([]api.Value, 1) },
		func(c *api.Change) { c.Row = []api.Value{boolean(1)} },
		func(c *api.Change) { c.Valid.From = 1 },
		func(c *api.Change) { c.Valid.To = 1 },
		func(c *api.Change) { c.Valid.From = -1 },
		func(c *api.Change) { c.Valid = api.Span{From: 1, To: 2} },
		func(c *api.Change) { c.Valid = api.Span{From: 0, To: api.MaxTime} },
	} {
		c := define("t", "a", "b")
		spoil(&c)
		if frame.Change(c) {
			t.Error(i)
		}
		checkChange(t, c, false)
	}
}

func TestRight(t *testing.T) { // P6.1
	check := func(x api.Txn, want bool) {
		t.Helper()
		if frame.Right(x) != want || (frame.Body(x) != "") != want || (frame.Encode(x) != "") != want {
			t.Errorf("%d at %d, %d changes: not %v", x.Seq, x.Time, len(x.Changes), want)
		}
	}
	for _, n := range []int{1, 2, 127, 128, 1 << 20, 1<<40 - 1, 1 << 40} {
		check(api.Txn{Seq: n}, true)
	}
	for _, n := range []int{0, -1, math.MinInt, math.MinInt + 1, 1<<40 + 1, 1<<41 + 1, math.MaxInt} {
		check(api.Txn{Seq: n}, false)
	}
	for _, n := range []int{0, 1, 127, 128, 1<<40 - 2, 1<<40 - 1} {
		check(api.Txn{Seq: 1, Time: n}, true)
	}
	for _, n := range []int{-1, math.MinInt, 1 << 40, 1<<40 + 1, 1 << 41, math.MaxInt} {
		check(api.Txn{Seq: 1, Time: n}, false)
	}
	check(api.Txn{}, false)
	check(api.Txn{Seq: 1, Changes: []api.Change{}}, true)
	for _, n := range []int{0, 1, 2, 99, 100, 101, 102, 200, 256, 356, 1 << 16} {
		check(txn(slices.Repeat([]api.Change{put(integer(1))}, n)...), n <= 100)
	}
}

// TestRightPlaces has one change that may not be, wherever it can stand.
func TestRightPlaces(t *testing.T) { // P6.1
	for n := range 100 {
		l := slices.Repeat([]api.Change{put(integer(1)), define("t", "a")}, 50)
		l[n] = put()
		if frame.Right(txn(l...)) {
			t.Error(n)
		}
	}
}

// variants is changes that are all different.
func variants() []api.Change {
	wide := define("t", "a", "b")
	wide.Def.Cols[1].Need = true
	two := wide
	two.Def.Keys = 2
	l := []api.Change{
		{}, put(), put(integer(1)), drop(integer(1)), put(integer(2)), put(textOf("a")), put(bytesOf("a")), put(bits(0)), put(bits(1)),
		put(integer(1), integer(1)), put(integer(1), integer(2)), put(integer(2), integer(1)), put(integer(1), api.Value{}),
		define("t", "a"), define("t", "b"), define("u", "a"), define("t", "a", "b"), define("t", "b", "a"), wide, two,
	}
	for _, spoil := range []func(c *api.Change){
		func(c *api.Change) { c.Op = 7 },
		func(c *api.Change) { c.Table = "u" },
		func(c *api.Change) { c.Valid.From++ },
		func(c *api.Change) { c.Valid.To++ },
		func(c *api.Change) { c.Def.Name = "t" },
		func(c *api.Change) { c.Def.Keys = 1 },
		func(c *api.Change) { c.Def.Cols = make([]api.Column, 1) },
		func(c *api.Change) { c.Def.Cols = make([]api.Column, 2) },
	} {
		c := put(integer(1))
		spoil(&c)
		l = append(l, c)
	}
	return l
}

// TestSame has transactions that are not right too: they are the same, if they have the same.
func TestSame(t *testing.T) { // P6.1
	var all []api.Txn
	for _, seq := range []int{0, 1, -1, 1 << 40} {
		for _, time := range []int{0, 1, -1} {
			all = append(all, api.Txn{Seq: seq, Time: time})
		}
	}
	l := variants()
	for i, c := range l {
		all = append(all, txn(c), txn(c, c), txn(c, l[(i+1)%len(l)]), txn(l[(i+1)%len(l)], c))
	}
	again := slices.Clone(all)
	for i := range again {
		again[i].Changes = deepCopy(again[i].Changes)
	}
	for i, a := range all {
		for j, b := range again {
			if frame.Same(a, b) != (i == j) {
				t.Errorf("%d, %d: not %v", i, j, i == j)
			}
		}
	}
}

func TestSameEmpty(t *testing.T) { // P6.1, R1
	a, b := txn(define("t", "a"), put()), txn(define("t", "a"), put())
	b.Changes[0].Row, b.Changes[1].Row, b.Changes[1].Def.Cols = []api.Value{}, []api.Value{}, []api.Column{}
	if !frame.Same(a, b) || !frame.Same(b, a) || !frame.Same(txn(), txn([]api.Change{}...)) || !frame.Same(api.Txn{}, api.Txn{Changes: []api.Change{}}) {
		t.Error("a nil list is not an empty one")
	}
}

// deepCopy is changes in memory of their own.
func deepCopy(l []api.Change) []api.Change {
	l = slices.Clone(l)
	for i := range l {
		l[i].Row, l[i].Def.Cols = slices.Clone(l[i].Row), slices.Clone(l[i].Def.Cols)
	}
	return l
}
