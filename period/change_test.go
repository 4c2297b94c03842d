package period_test

import (
	"testing"

	"memoir/api"
	"memoir/period"
)

func TestExample(t *testing.T) { // P12.2
	row := []api.Value{text("new")}
	got := period.Put(list(holding(1, 9, text("old"))), of(3, 5), row)
	check(t, "put", got, list(holding(1, 3, text("old")), holding(3, 5, text("new")), holding(5, 9, text("old"))))
}

func TestDrop(t *testing.T) { // P12.2
	for _, c := range []struct {
		s    api.Span
		want []period.Piece
	}{
		{of(2, 3), list(piece(1, 2, 1), piece(3, 4, 1), piece(4, 6, 2), piece(8, 9, 1), piece(20, end, 3))},
		{of(1, 4), some()[1:]},
		{of(0, 5), list(piece(5, 6, 2), piece(8, 9, 1), piece(20, end, 3))},
		{of(3, 5), list(piece(1, 3, 1), piece(5, 6, 2), piece(8, 9, 1), piece(20, end, 3))},
		{of(3, 9), list(piece(1, 3, 1), piece(20, end, 3))},
		{of(4, 6), list(piece(1, 4, 1), piece(8, 9, 1), piece(20, end, 3))},
		{of(8, 21), list(piece(1, 4, 1), piece(4, 6, 2), piece(21, end, 3))},
		{of(30, end), list(piece(1, 4, 1), piece(4, 6, 2), piece(8, 9, 1), piece(20, 30, 3))},
		{of(end-1, end), list(piece(1, 4, 1), piece(4, 6, 2), piece(8, 9, 1), piece(20, end-1, 3))},
		{of(0, end), nil}, {of(1, end), nil},
		{of(0, 1), some()}, {of(6, 8), some()}, {of(6, 7), some()}, {of(9, 20), some()},
	} {
		check(t, "drop", period.Drop(some(), c.s), c.want)
	}
	check(t, "drop of nothing", period.Drop(nil, of(1, 2)), nil)
	check(t, "drop of a row without values", period.Drop(list(holding(1, 9)), of(3, 5)), list(holding(1, 3), holding(5, 9)))
}

func TestPut(t *testing.T) { // P12.2
	for _, c := range []struct {
		s    api.Span
		want []period.Piece
	}{
		{of(2, 3), list(piece(1, 2, 1), piece(2, 3, 7), piece(3, 4, 1), piece(4, 6, 2), piece(8, 9, 1), piece(20, end, 3))},
		{of(1, 4), list(piece(1, 4, 7), piece(4, 6, 2), piece(8, 9, 1), piece(20, end, 3))},
		{of(0, 5), list(piece(0, 5, 7), piece(5, 6, 2), piece(8, 9, 1), piece(20, end, 3))},
		{of(3, 5), list(piece(1, 3, 1), piece(3, 5, 7), piece(5, 6, 2), piece(8, 9, 1), piece(20, end, 3))},
		{of(0, 1), list(piece(0, 1, 7), piece(1, 4, 1), piece(4, 6, 2), piece(8, 9, 1), piece(20, end, 3))},
		{of(6, 8), list(piece(1, 4, 1), piece(4, 6, 2), piece(6, 8, 7), piece(8, 9, 1), piece(20, end, 3))},
		{of(10, 11), list(piece(1, 4, 1), piece(4, 6, 2), piece(8, 9, 1), piece(10, 11, 7), piece(20, end, 3))},
		{of(30, end), list(piece(1, 4, 1), piece(4, 6, 2), piece(8, 9, 1), piece(20, 30, 3), piece(30, end, 7))},
		{of(0, end), list(piece(0, end, 7))},
	} {
		check(t, "put", period.Put(some(), c.s, []api.Value{integer(7)}), c.want)
	}
	check(t, "the first one", period.Put(nil, of(3, 4), []api.Value{integer(7)}), list(piece(3, 4, 7)))
	check(t, "a row without values", period.Put(list(piece(1, 4, 1)), of(3, 5), nil), list(piece(1, 3, 1), holding(3, 5)))
	check(t, "behind the last one", period.Put(list(piece(1, 4, 1)), of(end-1, end), []api.Value{integer(7)}), list(piece(1, 4, 1), piece(end-1, end, 7)))
}

// TestPutApart: what is beside a row that is put stays apart, of the same row too.
func TestPutApart(t *testing.T) { // P12.2
	one := []api.Value{integer(1)}
	check(t, "within", period.Put(list(piece(1, 9, 1)), of(3, 5), one), list(piece(1, 3, 1), piece(3, 5, 1), piece(5, 9, 1)))
	check(t, "behind", period.Put(list(piece(1, 3, 1)), of(3, 5), one), list(piece(1, 3, 1), piece(3, 5, 1)))
	check(t, "ahead", period.Put(list(piece(3, 5, 1)), of(1, 3), one), list(piece(1, 3, 1), piece(3, 5, 1)))
	check(t, "between", period.Put(list(piece(1, 3, 1), piece(5, 9, 1)), of(3, 5), one), list(piece(1, 3, 1), piece(3, 5, 1), piece(5, 9, 1)))
	check(t, "elsewhere", period.Put(list(piece(1, 3, 1), piece(3, 5, 1)), of(7, 9), one), list(piece(1, 3, 1), piece(3, 5, 1), piece(7, 9, 1)))
	check(t, "dropped elsewhere", period.Drop(list(piece(1, 3, 1), piece(3, 5, 1), piece(7, 9, 1)), of(7, 8)), list(piece(1, 3, 1), piece(3, 5, 1), piece(8, 9, 1)))
}

func TestCoalesce(t *testing.T) { // P12.4
	for _, c := range []struct{ l, want []period.Piece }{
		{nil, nil},
		{some(), some()},
		{list(piece(1, 2, 1), piece(2, 3, 1), piece(3, 4, 1), piece(5, 6, 1), piece(6, 7, 2)), list(piece(1, 4, 1), piece(5, 6, 1), piece(6, 7, 2))},
		{list(piece(1, 2, 1), piece(2, 3, 2), piece(3, 4, 1)), list(piece(1, 2, 1), piece(2, 3, 2), piece(3, 4, 1))},
		{list(piece(1, 2, 1), piece(3, 4, 1)), list(piece(1, 2, 1), piece(3, 4, 1))},
		{list(piece(0, 1, 1), piece(1, end-1, 1), piece(end-1, end, 1)), list(piece(0, end, 1))},
		{list(piece(1, 2, 1), piece(2, 3, 2), piece(3, 4, 2), piece(4, 5, 1), piece(5, 6, 1)), list(piece(1, 2, 1), piece(2, 4, 2), piece(4, 6, 1))},
		{list(holding(1, 2), holding(2, 3), holding(3, 4, api.Value{})), list(holding(1, 3), holding(3, 4, api.Value{}))},
		{list(holding(1, 2), period.Piece{Valid: of(2, 3), Row: []api.Value{}}), list(holding(1, 3))},
		{list(holding(1, 2, integer(1), text("a")), holding(2, 3, integer(1), text("a")), holding(3, 4, integer(1), text("b"))), list(holding(1, 3, integer(1), text("a")), holding(3, 4, integer(1), text("b")))},
		{list(holding(1, 2, text("a")), holding(2, 3, api.Value{Kind: api.Bytes, S: "a"})), list(holding(1, 2, text("a")), holding(2, 3, api.Value{Kind: api.Bytes, S: "a"}))},
		{list(holding(1, 2, integer(1)), holding(2, 3, integer(1), integer(1))), list(holding(1, 2, integer(1)), holding(2, 3, integer(1), integer(1)))},
		{list(holding(1, 2, api.Value{Kind: api.Float, Bits: 0x7ff8000000000000}), holding(2, 3, api.Value{Kind: api.Float, Bits: 0x7ff8000000000000})), list(holding(1, 3, api.Value{Kind: api.Float, Bits: 0x7ff8000000000000}))},
	} {
		check(t, "coalesced", period.Coalesce(c.l), c.want)
	}
}

func TestDiff(t *testing.T) { // P12.5
	for _, c := range []struct{ a, b, goes, comes []period.Piece }{
		{nil, nil, nil, nil},
		{some(), nil, some(), nil},
		{nil, some(), nil, some()},
		{some(), some(), nil, nil},
		{some(), list(piece(1, 4, 2), piece(4, 6, 2), piece(8, 10, 1)), list(piece(1, 4, 1), piece(8, 9, 1), piece(20, end, 3)), list(piece(1, 4, 2), piece(8, 10, 1))},
		{list(piece(1, 4, 1)), list(piece(1, 2, 1), piece(2, 4, 1)), list(piece(1, 4, 1)), list(piece(1, 2, 1), piece(2, 4, 1))},
		{list(piece(1, 4, 1)), list(piece(2, 4, 1)), list(piece(1, 4, 1)), list(piece(2, 4, 1))},
		{list(piece(1, 4, 1), piece(4, 6, 1)), list(piece(4, 6, 1), piece(7, 9, 1)), list(piece(1, 4, 1)), list(piece(7, 9, 1))},
		{list(piece(1, 4, 1)), list(holding(1, 4, integer(1), integer(1))), list(piece(1, 4, 1)), list(holding(1, 4, integer(1), integer(1)))},
		{list(holding(1, 4)), list(period.Piece{Valid: of(1, 4), Row: []api.Value{}}), nil, nil},
	} {
		goes, comes := period.Diff(c.a, c.b)
		check(t, "goes", goes, c.goes)
		check(t, "comes", comes, c.comes)
	}
	for _, l := range wrong() {
		for _, other := range [][]period.Piece{nil, some(), list(piece(1, 3, 1)), l} {
			goes, comes := period.Diff(l, other)
			back, forth := period.Diff(other, l)
			if len(goes)+len(comes)+len(back)+len(forth) != 0 {
				t.Errorf("%v and %v: %v, %v; %v, %v", l, other, goes, comes, back, forth)
			}
		}
	}
}

// TestWrong: what is not right is told as it is.
func TestWrong(t *testing.T) { // P12.2, P12.4
	one := []api.Value{integer(1)}
	for _, l := range wrong() {
		for _, s := range []api.Span{of(1, 3), of(0, end), of(2, 6), of(5, 5)} {
			check(t, "put to what is not right", period.Put(l, s, one), l)
			check(t, "drop of what is not right", period.Drop(l, s), l)
		}
		check(t, "coalesced of what is not right", period.Coalesce(l), l)
	}
	for _, s := range wrongSpans() {
		check(t, "put at what is no span", period.Put(some(), s, one), some())
		check(t, "drop of what is no span", period.Drop(some(), s), some())
		check(t, "put to nothing", period.Put(nil, s, one), nil)
	}
	for _, v := range wrongValues() {
		check(t, "put of what is no row", period.Put(some(), of(2, 5), []api.Value{v}), some())
		check(t, "put of what is no row", period.Put(some(), of(2, 5), []api.Value{integer(1), v, integer(1)}), some())
		check(t, "put to nothing", period.Put(nil, of(2, 5), []api.Value{v}), nil)
	}
	touching := list(piece(1, 2, 1), piece(2, 3, 1), piece(9, 9, 1))
	check(t, "one wrong piece behind right ones", period.Coalesce(touching), touching)
}
