package period_test

import (
	"math"
	"slices"
	"strings"
	"testing"

	"memoir/api"
	"memoir/period"
)

const end = 1 << 40

func of(from, to int) api.Span { return api.Span{From: from, To: to} }

func integer(n int) api.Value { return api.Value{Kind: api.Int, N: n} }

func text(s string) api.Value { return api.Value{Kind: api.Text, S: s} }

// piece is a row of one number, valid from one time up to another one.
func piece(from, to, n int) period.Piece {
	return period.Piece{Valid: of(from, to), Row: []api.Value{integer(n)}}
}

// holding is a piece of any values.
func holding(from, to int, row ...api.Value) period.Piece {
	return period.Piece{Valid: of(from, to), Row: row}
}

func list(l ...period.Piece) []period.Piece { return l }

// alike holds two lists of pieces against each other without the package.
func alike(a, b []period.Piece) bool {
	if len(a) != len(b) {
		return false
	}
	for i := range a {
		if !alikePiece(a[i], b[i]) {
			return false
		}
	}
	return true
}

func alikePiece(a, b period.Piece) bool {
	return a.Valid.From == b.Valid.From && a.Valid.To == b.Valid.To && slices.Equal(a.Row, b.Row)
}

func check(t *testing.T, what string, got, want []period.Piece) {
	t.Helper()
	if !alike(got, want) {
		t.Errorf("%s: %v, not %v", what, got, want)
	}
}

// copyOf is pieces that share no list with others.
func copyOf(l []period.Piece) []period.Piece {
	var c []period.Piece
	for _, p := range l {
		c = append(c, period.Piece{Valid: p.Valid, Row: slices.Clone(p.Row)})
	}
	return c
}

// some is right pieces: two that touch, a gap, and two more of which the first one has the first row again.
func some() []period.Piece {
	return list(piece(1, 4, 1), piece(4, 6, 2), piece(8, 9, 1), piece(20, end, 3))
}

// wrongValues is values that can't be.
func wrongValues() []api.Value {
	return []api.Value{
		{Kind: 9}, {Kind: -1}, {N: 1}, {S: "a"}, {Kind: api.Bool, N: 2}, {Kind: api.Bool, N: 1, S: "a"}, {Kind: api.Int, Bits: 1},
		{Kind: api.Float, Bits: 1 << 63}, {Kind: api.Float, Bits: math.MaxUint64}, {Kind: api.Text, N: 1}, {Kind: api.Text, S: strings.Repeat("a", 4097)}, {Kind: api.Bytes, S: "a", Bits: 1},
	}
}

// wrongSpans is spans that can't be.
func wrongSpans() []api.Span {
	return []api.Span{{}, of(3, 3), of(4, 3), of(-1, 3), of(-1, 0), of(0, end+1), of(end, end), of(end, end+1), of(9, -9), of(math.MinInt, math.MaxInt), of(math.MaxInt, math.MinInt)}
}

// wrong is pieces that are not right, of each kind that the chapter's words rule out.
func wrong() [][]period.Piece {
	all := [][]period.Piece{
		list(piece(1, 3, 1), piece(2, 4, 1)),
		list(piece(1, 3, 1), piece(1, 3, 1)),
		list(piece(1, 9, 1), piece(3, 5, 1)),
		list(piece(3, 5, 1), piece(1, 9, 1)),
		list(piece(3, 4, 1), piece(1, 2, 1)),
		list(piece(3, 4, 1), piece(2, 3, 1)),
		list(piece(1, 2, 1), piece(5, 7, 1), piece(6, 9, 1)),
		list(piece(5, 7, 1), piece(8, 9, 1), piece(1, 2, 1)),
	}
	for _, s := range wrongSpans() {
		all = append(all, list(piece(s.From, s.To, 1)), list(piece(1, 3, 1), piece(s.From, s.To, 1)), list(piece(s.From, s.To, 1), piece(5, 7, 1)))
	}
	for _, v := range wrongValues() {
		all = append(all, list(holding(1, 3, v)), list(piece(1, 3, 1), holding(4, 6, integer(1), v)), list(holding(1, 3, v, integer(1)), piece(4, 6, 1)))
	}
	return all
}

func TestRight(t *testing.T) { // P12.1
	for _, l := range [][]period.Piece{
		nil, {}, some(),
		list(piece(0, 1, 1)), list(piece(0, end, 1)), list(piece(end-1, end, 1)),
		list(piece(1, 2, 1), piece(2, 3, 1), piece(3, 4, 1)),
		list(piece(0, 1, 1), piece(end-1, end, 1)),
		list(holding(1, 2), period.Piece{Valid: of(2, 3), Row: []api.Value{}}),
		list(holding(1, 2, api.Value{}, api.Value{Kind: api.Bool, N: 1}, integer(math.MinInt), api.Value{Kind: api.Float, Bits: 0x7ff8000000000000}, api.Value{Kind: api.Bytes, S: "\xff\x00"}, text(strings.Repeat("a", 4096)))),
		list(holding(1, 2, make([]api.Value, 5000)...)),
	} {
		if !period.Right(l) {
			t.Errorf("%v is not right", l)
		}
	}
	for _, l := range wrong() {
		if period.Right(l) {
			t.Errorf("%v is right", l)
		}
	}
}

func TestSame(t *testing.T) { // P12.1
	lists := append(wrong(),
		nil, some(), some()[:3], some()[1:],
		list(piece(1, 4, 1)), list(piece(1, 5, 1)), list(piece(2, 4, 1)), list(piece(1, 4, 2)),
		list(piece(1, 2, 1), piece(2, 4, 1)), list(piece(1, 2, 1), piece(2, 4, 2)), list(piece(1, 2, 2), piece(2, 4, 1)),
		list(holding(1, 4)), list(holding(1, 4, api.Value{})), list(holding(1, 4, integer(1), integer(1))), list(holding(1, 4, integer(1), integer(2))), list(holding(1, 4, integer(2), integer(1))),
		list(holding(1, 4, text("1"))), list(holding(1, 4, api.Value{Kind: api.Bytes, S: "1"})), list(holding(1, 4, api.Value{Kind: api.Bool, N: 1})),
		list(holding(1, 4, api.Value{Kind: api.Float})), list(holding(1, 4, api.Value{Kind: api.Float, Bits: 1})), list(holding(1, 4, api.Value{Kind: api.Float, Bits: 0x7ff8000000000000})),
	)
	for i, a := range lists {
		for j, b := range lists {
			if period.Same(a, copyOf(b)) != (i == j) {
				t.Errorf("%v and %v are the same: not %v", a, b, i == j)
			}
		}
	}
	empty := list(period.Piece{Valid: of(1, 2), Row: []api.Value{}})
	if !period.Same(nil, []period.Piece{}) || !period.Same([]period.Piece{}, nil) || !period.Same(empty, list(holding(1, 2))) || !period.Same(list(holding(1, 2)), empty) {
		t.Error("a nil list is an empty one")
	}
}

func TestAt(t *testing.T) { // P12.3
	at := func(l []period.Piece, t int) int {
		row, ok := period.At(l, t)
		if !ok && len(row) == 0 {
			return 0
		}
		if !ok || len(row) != 1 {
			return -1
		}
		return row[0].N
	}
	for time, want := range map[int]int{
		math.MinInt: 0, -1: 0, 0: 0, 1: 1, 3: 1, 4: 2, 5: 2, 6: 0, 7: 0, 8: 1, 9: 0, 19: 0, 20: 3, 21: 3, end - 1: 3, end: 0, end + 1: 0, math.MaxInt: 0,
	} {
		if got := at(some(), time); got != want {
			t.Errorf("at %d: %d, not %d", time, got, want)
		}
	}
	if at(nil, 0) != 0 || at(list(piece(0, end, 7)), 0) != 7 || at(list(piece(0, end, 7)), end-1) != 7 {
		t.Error("at the edges")
	}
	if row, ok := period.At(list(holding(1, 2)), 1); len(row) != 0 || !ok {
		t.Error("a row without values is valid, too", row, ok)
	}
	values := []api.Value{{}, integer(-5), text("a"), {Kind: api.Bool, N: 1}, {Kind: api.Float, Bits: 0x7ff8000000000000}, {Kind: api.Bytes, S: "\x00"}}
	if row, ok := period.At(list(holding(1, 2, values...)), 1); !slices.Equal(row, values) || !ok {
		t.Error(row, ok)
	}
	for _, l := range wrong() {
		for time := -1; time < 10; time++ {
			if row, ok := period.At(l, time); len(row) != 0 || ok {
				t.Errorf("%v at %d: %v, %v", l, time, row, ok)
			}
		}
	}
}
