package schema_test

import (
	"math"
	"slices"
	"strings"
	"testing"
	"unsafe"

	"memoir/api"
	"memoir/schema"
)

func integer(n int) api.Value    { return api.Value{Kind: api.Int, N: n} }
func boolean(n int) api.Value    { return api.Value{Kind: api.Bool, N: n} }
func bits(n uint64) api.Value    { return api.Value{Kind: api.Float, Bits: n} }
func bytesOf(s string) api.Value { return api.Value{Kind: api.Bytes, S: s} }
func textOf(s string) api.Value  { return api.Value{Kind: api.Text, S: s} }

// fitting is a row that fits table.
func fitting() []api.Value {
	return []api.Value{integer(5), textOf("at"), boolean(1), bits(0), bytesOf("x")}
}

// values is right values, by their kinds.
func values() [][]api.Value {
	long := strings.Repeat("\xff", api.MaxText)
	return [][]api.Value{
		{{}},
		{boolean(0), boolean(1)},
		{integer(0), integer(-1), integer(math.MinInt), integer(math.MaxInt)},
		{bits(0), bits(0x7ff8 << 48), bits(0xfff0 << 48), bits(0x3ff0 << 48), bits(1)},
		{bytesOf(""), bytesOf("a\x00"), bytesOf(long)},
		{textOf(""), textOf("a\xff"), textOf(long)},
	}
}

// wrongValues is values that are not right.
func wrongValues() []api.Value {
	over := strings.Repeat("a", api.MaxText+1)
	return []api.Value{
		{N: 1}, {Bits: 1}, {S: "a"}, {Kind: -1}, {Kind: 6}, {Kind: 256 + 2}, boolean(2), boolean(-1), {Kind: api.Bool, S: "a"}, {Kind: api.Int, Bits: 1}, {Kind: api.Int, N: 5, S: "a"},
		bits(1 << 63), bits(0x7ff8<<48 + 1), bits(math.MaxUint64), {Kind: api.Float, N: 1}, bytesOf(over), {Kind: api.Bytes, N: 1}, textOf(over), {Kind: api.Text, S: "a", Bits: 1},
	}
}

// checkFits sees what Fits, and with it Key and Widen, tell of a row that has as many values as there are columns.
func checkFits(t *testing.T, s api.Schema, row []api.Value, want api.Errno) {
	t.Helper()
	if e := schema.Fits(s, row); e != want {
		t.Errorf("%v, %.60v: %d, not %d", s, row, e, want)
	}
	wantKey, wantRow := []api.Value(nil), []api.Value(nil)
	if want == api.OK {
		wantKey, wantRow = row[:s.Keys], row
	}
	if l := schema.Key(s, row); !slices.Equal(l, wantKey) {
		t.Errorf("%v, %.60v: the key is %.60v", s, row, l)
	}
	if l, e := schema.Widen(s, row); e != want || !slices.Equal(l, wantRow) {
		t.Errorf("%v, %.60v: widened %.60v, %d", s, row, l, e)
	}
}

func TestFits(t *testing.T) { // P5.2
	checkFits(t, table(), fitting(), api.OK)
	for i, c := range table().Cols {
		for kind, l := range values() {
			want := api.ErrType
			if kind == c.Kind || kind == api.Null && !c.Need {
				want = api.OK
			}
			for _, v := range l {
				row := fitting()
				row[i] = v
				checkFits(t, table(), row, want)
			}
		}
		for _, v := range wrongValues() {
			row := fitting()
			row[i] = v
			checkFits(t, table(), row, api.ErrType)
		}
	}
}

// TestFitsColumns asks each kind of value of each kind of column, in the key and behind it.
func TestFitsColumns(t *testing.T) { // P5.2
	for kind := api.Bool; kind <= api.Text; kind++ {
		for _, need := range []bool{true, false} {
			s := api.Schema{Name: "t", Cols: []api.Column{column("a", kind, true), column("b", kind, need)}, Keys: 1}
			for of, l := range values() {
				for _, v := range l {
					want := api.ErrType
					if of == kind || of == api.Null && !need {
						want = api.OK
					}
					checkFits(t, s, []api.Value{values()[kind][0], v}, want)
					if of == api.Null {
						want = api.ErrType
					}
					checkFits(t, s, []api.Value{v, values()[kind][1]}, want)
				}
			}
			for _, v := range wrongValues() {
				checkFits(t, s, []api.Value{values()[kind][0], v}, api.ErrType)
				checkFits(t, s, []api.Value{v, values()[kind][0]}, api.ErrType)
			}
		}
	}
}

func TestFitsLength(t *testing.T) { // P5.2
	for cols := 1; cols <= 16; cols++ {
		for n := range 20 {
			row, want := slices.Repeat([]api.Value{integer(7)}, n), api.ErrType
			if n == cols {
				want = api.OK
			}
			s := wide(cols, min(cols, 8))
			if e := schema.Fits(s, row); e != want {
				t.Errorf("%d columns, %d values: %d", cols, n, e)
			}
			if l := schema.Key(s, row); (want == api.OK) != (len(l) == s.Keys) || want != api.OK && len(l) != 0 {
				t.Errorf("%d columns, %d values: the key has %d", cols, n, len(l))
			}
		}
	}
	if e := schema.Fits(table(), slices.Repeat(fitting(), 100000)); e != api.ErrType {
		t.Error(e)
	}
}

func TestKey(t *testing.T) { // P5.2
	row := make([]api.Value, 16)
	for i := range row {
		row[i] = integer(i)
	}
	for keys := 1; keys <= 8; keys++ {
		for cols := keys; cols <= 16; cols++ {
			if l := schema.Key(wide(cols, keys), row[:cols]); !slices.Equal(l, row[:keys]) {
				t.Errorf("%d of %d: %v", keys, cols, l)
			}
		}
	}
	if l := schema.Key(table(), fitting()[:3]); len(l) != 0 {
		t.Error(l)
	}
}

// TestWrongSchema has rows that would not fit either: the schema is told first.
func TestWrongSchema(t *testing.T) { // P5.2, P5.3
	for _, s := range wrong() {
		for _, row := range [][]api.Value{nil, {}, {integer(1)}, {integer(1), integer(1)}, fitting(), {{Kind: 9}}, slices.Repeat([]api.Value{integer(1)}, 17)} {
			checkFits(t, s, row, api.ErrSchema)
		}
	}
}

func checkWiden(t *testing.T, s api.Schema, row, want []api.Value, wantErr api.Errno) {
	t.Helper()
	if l, e := schema.Widen(s, row); e != wantErr || !slices.Equal(l, want) {
		t.Errorf("%v, %.60v: %.60v, %d, not %.60v, %d", s, row, l, e, want, wantErr)
	}
}

func TestWiden(t *testing.T) { // P5.3
	id, at, yes := integer(5), textOf("at"), boolean(1)
	s := table()
	checkWiden(t, s, fitting(), fitting(), api.OK)
	for n := range 5 { // the last column Needs
		checkWiden(t, s, fitting()[:n], nil, api.ErrType)
	}
	s.Cols[4].Need = false
	for n := range 3 {
		checkWiden(t, s, fitting()[:n], nil, api.ErrType)
	}
	checkWiden(t, s, []api.Value{id, at, yes}, []api.Value{id, at, yes, {}, {}}, api.OK)
	checkWiden(t, s, []api.Value{id, at, yes, {}}, []api.Value{id, at, yes, {}, {}}, api.OK)
	checkWiden(t, s, []api.Value{id, at, yes, bits(1)}, []api.Value{id, at, yes, bits(1), {}}, api.OK)
	checkWiden(t, s, []api.Value{id, at, {}}, nil, api.ErrType)
	checkWiden(t, s, []api.Value{id, at, id}, nil, api.ErrType)
	checkWiden(t, s, []api.Value{id, at, yes, yes}, nil, api.ErrType)
	checkWiden(t, s, append(fitting(), api.Value{}), nil, api.ErrType)
	checkWiden(t, s, append(fitting(), bits(0)), nil, api.ErrType)
	checkWiden(t, s, slices.Repeat(fitting(), 100000), nil, api.ErrType)
	for _, v := range wrongValues() {
		checkWiden(t, s, []api.Value{id, at, yes, v}, nil, api.ErrType)
	}
	// The example of the whole: a row of two columns, told by a schema of three.
	three := api.Schema{Name: "t", Cols: []api.Column{column("a", api.Int, true), column("b", api.Text, false), column("c", api.Bool, false)}, Keys: 1}
	checkWiden(t, three, []api.Value{id, at}, []api.Value{id, at, {}}, api.OK)
}

func TestWidenSizes(t *testing.T) { // P5.3
	for cols := 1; cols <= 16; cols++ {
		s := wide(cols, 1)
		for i := 1; i < cols; i++ {
			s.Cols[i].Need = false
		}
		for n := range 20 {
			row := slices.Repeat([]api.Value{integer(7)}, n)
			if n < 1 || n > cols {
				checkWiden(t, s, row, nil, api.ErrType)
			} else {
				checkWiden(t, s, row, append(slices.Clone(row), make([]api.Value, cols-n)...), api.OK)
			}
		}
	}
}

// rowsOf is all rows of n values of some kinds.
func rowsOf(n int) [][]api.Value {
	rows := [][]api.Value{nil}
	for range n {
		var next [][]api.Value
		for _, row := range rows {
			for _, v := range []api.Value{{}, boolean(1), textOf("a"), {N: 1}} {
				next = append(next, append(slices.Clone(row), v))
			}
		}
		rows = next
	}
	return rows
}

func TestWidenedFits(t *testing.T) { // P5.6
	all := small()
	found := 0
	for _, a := range all {
		for _, row := range rowsOf(len(a.Cols)) {
			if schema.Fits(a, row) != api.OK {
				continue
			}
			for _, b := range all {
				if !schema.Extends(a, b) {
					continue
				}
				found++
				l, e := schema.Widen(b, row)
				if e != api.OK || schema.Fits(b, l) != api.OK || !slices.Equal(l[:len(row)], row) || !slices.Equal(schema.Key(b, l), schema.Key(a, row)) {
					t.Fatalf("%v, %v, %v: %v, %d", a, b, row, l, e)
				}
			}
		}
	}
	if found == 0 {
		t.Error("no rows")
	}
}

// TestLeavesArguments hands in lists with room behind them: both are as they were.
func TestLeavesArguments(t *testing.T) { // R4
	row := append(fitting(), integer(8), integer(9))
	s := table()
	s.Cols = append(s.Cols, column("more", 1, true), column("still", 2, true))
	s.Cols[3].Need = false
	kept, cols := slices.Clone(row), slices.Clone(s.Cols)
	for n := range row {
		for m := range s.Cols {
			part := api.Schema{Name: "t", Cols: s.Cols[:m], Keys: 1}
			schema.Fits(part, row[:n])
			schema.Key(part, row[:n])
			schema.Widen(part, row[:n])
			schema.Encode(part)
			schema.Extends(part, s)
			schema.Same(part, s)
		}
	}
	if !slices.Equal(row, kept) || !slices.Equal(s.Cols, cols) {
		t.Error(row, s)
	}
}

// scribble writes over a list, and the spare room behind it.
func scribble[T any](l []T, with T) {
	l = l[:cap(l)]
	for i := range l {
		l[i] = with
	}
}

func TestRowsAreNew(t *testing.T) { // R4
	room := []byte("at")
	row, s := append(fitting(), integer(8)), table()
	row[1].S = unsafe.String(&room[0], len(room))
	key := schema.Key(s, row[:5])
	wide, _ := schema.Widen(s, row[:5])
	clear(room)
	scribble(row, api.Value{})
	if !slices.Equal(key, fitting()[:3]) || !slices.Equal(wide, fitting()) {
		t.Errorf("an answer shares memory with a row: %v, %v", key, wide)
	}
	row = append(fitting(), integer(8))
	scribble(schema.Key(s, row[:5]), api.Value{Kind: 9})
	wide, _ = schema.Widen(s, row[:5])
	scribble(wide, api.Value{Kind: 9})
	if !slices.Equal(row, append(fitting(), integer(8))) {
		t.Errorf("a row shares memory with an answer: %v", row)
	}
}
