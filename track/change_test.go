package track_test

import (
	"math"
	"testing"

	"memoir/api"
	"memoir/period"
	"memoir/track"
)

func TestSet(t *testing.T) { // P14.2
	p, q, r := piece(1, 4, 1), piece(4, 9, 2), piece(4, 9, 3)
	two := versions(version(5, end, p), version(5, end, q))
	gone := versions(version(5, 8, p), version(5, 7, q))
	for _, c := range []struct {
		l    []track.Version
		at   int
		p    []period.Piece
		want []track.Version
	}{
		{nil, 0, nil, nil},
		{nil, 0, list(p), versions(version(0, end, p))},
		{nil, 5, list(p, q), two},
		{nil, end - 1, list(p), versions(version(end-1, end, p))},
		// what stays is not told anew
		{two, 5, list(p, q), two}, {two, 9, list(p, q), two}, {two, end - 1, list(p, q), two},
		// what goes ends, what comes begins
		{two, 9, list(p), versions(version(5, end, p), version(5, 9, q))},
		{two, 9, nil, versions(version(5, 9, p), version(5, 9, q))},
		{two, 9, list(p, r), versions(version(5, end, p), version(5, 9, q), version(9, end, r))},
		{two, 9, list(p, piece(4, 6, 2), piece(6, 9, 2)), versions(version(5, end, p), version(5, 9, q), version(9, end, piece(4, 6, 2)), version(9, end, piece(6, 9, 2)))},
		{two, 9, list(piece(0, 9, 2)), versions(version(5, 9, p), version(5, 9, q), version(9, end, piece(0, 9, 2)))},
		{two, 9, list(piece(0, 1, 7), p, q), versions(version(5, end, p), version(5, end, q), version(9, end, piece(0, 1, 7)))},
		{two, 6, list(p, piece(4, 10, 2)), versions(version(5, end, p), version(5, 6, q), version(6, end, piece(4, 10, 2)))},
		{two, 6, list(p, piece(5, 9, 2)), versions(version(5, end, p), version(5, 6, q), version(6, end, piece(5, 9, 2)))},
		{two, end - 1, list(q), versions(version(5, end-1, p), version(5, end, q))},
		// what began at this time is no more
		{two, 5, nil, nil},
		{two, 5, list(q), versions(version(5, end, q))},
		{two, 5, list(p, r), versions(version(5, end, p), version(5, end, r))},
		{versions(version(end-1, end, p)), end - 1, list(q), versions(version(end-1, end, q))},
		{versions(version(0, end, p)), 0, list(q), versions(version(0, end, q))},
		{versions(version(5, 9, q), version(9, end, r)), 9, list(q), versions(version(5, 9, q), version(9, end, q))},
		// what comes stands among what began at this time and stays
		{versions(version(3, end, piece(20, 21, 1)), version(5, end, q)), 5, list(p, q, piece(9, 10, 1), piece(20, 21, 1)), versions(version(3, end, piece(20, 21, 1)), version(5, end, p), version(5, end, q), version(5, end, piece(9, 10, 1)))},
		// what ended stays as it was
		{gone, 8, nil, gone}, {gone, 9, nil, gone},
		{gone, 8, list(p, q), versions(version(5, 8, p), version(5, 7, q), version(8, end, p), version(8, end, q))},
		{gone, 10, list(q), versions(version(5, 8, p), version(5, 7, q), version(10, end, q))},
		{versions(version(5, 7, q), version(6, end, p)), 7, list(q), versions(version(5, 7, q), version(6, 7, p), version(7, end, q))},
		// versions that begin at several times, in another order than that of their valid periods
		{versions(version(3, end, q), version(5, end, p)), 9, list(p), versions(version(3, 9, q), version(5, end, p))},
		{versions(version(3, end, q), version(5, end, p)), 5, list(q), versions(version(3, end, q))},
		{versions(version(3, end, q), version(5, end, p)), 5, nil, versions(version(3, 5, q))},
		// rows without values
		{versions(version(3, end, holding(1, 4))), 9, list(period.Piece{Valid: of(1, 4), Row: []api.Value{}}), versions(version(3, end, holding(1, 4)))},
		{versions(version(3, end, holding(1, 4))), 9, list(holding(1, 4, api.Value{})), versions(version(3, 9, holding(1, 4)), version(9, end, holding(1, 4, api.Value{})))},
	} {
		checkSet(t, c.l, c.at, c.p, c.want, api.OK)
	}
}

func TestSetErrors(t *testing.T) { // P14.2
	p := list(piece(1, 4, 1))
	for _, at := range []int{math.MinInt, -1, 0, 5, 19, end, end + 1, math.MaxInt} {
		checkSet(t, some(), at, p, nil, api.ErrArg)
	}
	for _, at := range []int{math.MinInt, -1, end, end + 1, math.MaxInt} {
		checkSet(t, nil, at, p, nil, api.ErrArg)
		checkSet(t, nil, at, nil, nil, api.ErrArg)
	}
	checkSet(t, versions(version(3, 8, piece(1, 4, 1))), 7, p, nil, api.ErrArg)
	checkSet(t, versions(version(3, end-1, piece(1, 4, 1))), end-2, p, nil, api.ErrArg)
	for _, l := range wrong() {
		for _, at := range []int{0, 5, 50, end - 1} {
			checkSet(t, l, at, p, nil, api.ErrArg)
			checkSet(t, l, at, nil, nil, api.ErrArg)
		}
	}
	bad := [][]period.Piece{
		list(piece(1, 3, 1), piece(2, 4, 1)), list(piece(1, 3, 1), piece(1, 3, 1)), list(piece(3, 4, 1), piece(1, 2, 1)),
	}
	for _, q := range wrongPieces() {
		bad = append(bad, list(q), list(q, piece(7, 9, 1)))
	}
	for _, l := range bad {
		checkSet(t, some(), 50, l, nil, api.ErrArg)
		checkSet(t, nil, 50, l, nil, api.ErrArg)
	}
}

func TestVacuum(t *testing.T) { // P14.5
	l := some()
	late := versions(l[0], l[2], l[3], l[4], l[5], l[6])
	last := versions(l[0], l[5], l[6])
	for h, want := range map[int][]track.Version{
		math.MinInt: l, -1: l, 0: l, 5: l, 6: l, 7: late, 8: late, 9: last, 10: last, 20: last, end - 1: last, end: nil, math.MaxInt: nil,
	} {
		check(t, "vacuumed", track.Vacuum(l, h), want)
	}
	check(t, "of nothing", track.Vacuum(nil, 5), nil)
	check(t, "all went", track.Vacuum(versions(version(1, 2, piece(1, 2, 1)), version(2, 3, piece(1, 2, 1))), 3), nil)
}

func TestCoalesce(t *testing.T) { // P14.6
	p, q := piece(1, 4, 1), piece(4, 9, 2)
	for _, c := range []struct{ l, want []track.Version }{
		{nil, nil},
		{some(), some()},
		{versions(version(1, 2, p), version(2, 3, p)), versions(version(1, 3, p))},
		{versions(version(1, 2, p), version(2, 3, p), version(3, end, p)), versions(version(1, end, p))},
		{versions(version(1, 2, p), version(3, 4, p)), versions(version(1, 2, p), version(3, 4, p))},
		{versions(version(1, 2, p), version(2, 3, p), version(4, 5, p), version(5, 9, p)), versions(version(1, 3, p), version(4, 9, p))},
		{versions(version(0, 1, p), version(end-1, end, p)), versions(version(0, 1, p), version(end-1, end, p))},
		// others between them; one stands where the first one of them stood
		{versions(version(1, 5, p), version(2, 3, q), version(3, 9, q), version(5, 6, p)), versions(version(1, 6, p), version(2, 9, q))},
		{versions(version(1, 5, q), version(2, 3, p), version(3, 9, p), version(5, 6, q)), versions(version(1, 6, q), version(2, 9, p))},
		{versions(version(1, 4, p), version(1, 2, q), version(2, 3, piece(5, 8, 2)), version(3, 4, q), version(4, 5, p), version(4, 5, q)), versions(version(1, 5, p), version(1, 2, q), version(2, 3, piece(5, 8, 2)), version(3, 5, q))},
		// other pieces
		{versions(version(1, 2, p), version(2, 3, piece(1, 4, 2))), versions(version(1, 2, p), version(2, 3, piece(1, 4, 2)))},
		{versions(version(1, 2, p), version(2, 3, piece(1, 5, 1))), versions(version(1, 2, p), version(2, 3, piece(1, 5, 1)))},
		{versions(version(1, 2, p), version(2, 3, piece(0, 4, 1))), versions(version(1, 2, p), version(2, 3, piece(0, 4, 1)))},
		{versions(version(1, 2, p), version(2, 3, piece(4, 5, 1))), versions(version(1, 2, p), version(2, 3, piece(4, 5, 1)))},
		{versions(version(1, 2, p), version(1, 2, piece(4, 5, 1))), versions(version(1, 2, p), version(1, 2, piece(4, 5, 1)))},
		{versions(version(1, 2, p), version(2, 3, piece(1, 4, 2)), version(3, 4, p)), versions(version(1, 2, p), version(2, 3, piece(1, 4, 2)), version(3, 4, p))},
		{versions(version(1, 2, holding(1, 4, text("a"))), version(2, 3, holding(1, 4, api.Value{Kind: api.Bytes, S: "a"}))), versions(version(1, 2, holding(1, 4, text("a"))), version(2, 3, holding(1, 4, api.Value{Kind: api.Bytes, S: "a"})))},
		{versions(version(1, 2, holding(1, 4, integer(1))), version(2, 3, holding(1, 4, integer(1), integer(1)))), versions(version(1, 2, holding(1, 4, integer(1))), version(2, 3, holding(1, 4, integer(1), integer(1))))},
		{versions(version(1, 2, holding(1, 4)), version(2, 3, period.Piece{Valid: of(1, 4), Row: []api.Value{}})), versions(version(1, 3, holding(1, 4)))},
	} {
		check(t, "coalesced", track.Coalesce(c.l), c.want)
	}
}

// TestWrong: versions that are not right are told as they are.
func TestWrong(t *testing.T) { // P14.5, P14.6
	touching := versions(version(1, 2, piece(1, 4, 1)), version(2, 3, piece(1, 4, 1)), version(9, 9, piece(1, 4, 1)))
	for _, l := range append(wrong(), touching) {
		for _, h := range []int{math.MinInt, 0, 3, 7, end, math.MaxInt} {
			check(t, "vacuumed", track.Vacuum(l, h), l)
		}
		check(t, "coalesced", track.Coalesce(l), l)
	}
}

func TestBetween(t *testing.T) { // P14.4
	early := list(piece(1, 4, 1), piece(4, 9, 2), piece(20, end, 3))
	cut := list(piece(1, 4, 1), piece(4, 6, 2), piece(6, 9, 3), piece(20, end, 3))
	states := func(l ...track.State) []track.State { return l }
	for _, c := range []struct {
		s    api.Span
		want []track.State
	}{
		{of(0, end), states(state(5, 7, early...), state(7, 9, cut...), state(9, 20, early[:2]...), state(20, end, early...))},
		{of(6, 10), states(state(6, 7, early...), state(7, 9, cut...), state(9, 10, early[:2]...))},
		{of(7, 9), states(state(7, 9, cut...))}, {of(8, 9), states(state(8, 9, cut...))}, {of(7, 8), states(state(7, 8, cut...))},
		{of(0, 5), nil}, {of(0, 6), states(state(5, 6, early...))}, {of(4, 5), nil}, {of(5, 6), states(state(5, 6, early...))},
		{of(19, 21), states(state(19, 20, early[:2]...), state(20, 21, early...))},
		{of(end-1, end), states(state(end-1, end, early...))}, {of(25, 30), states(state(25, 30, early...))},
	} {
		checkStates(t, "between", track.Between(some(), c.s), c.want)
	}
	for _, s := range wrongSpans() {
		checkStates(t, "of what is no span", track.Between(some(), s), nil)
	}
	checkStates(t, "of nothing", track.Between(nil, of(0, end)), nil)
	for _, l := range wrong() {
		checkStates(t, "of what is not right", track.Between(l, of(0, end)), nil)
		checkStates(t, "of what is not right", track.Between(l, of(1, 6)), nil)
	}
}

// TestBetweenSame: what is the same, coalesced, is one state, however many versions it is made of.
func TestBetweenSame(t *testing.T) { // P14.4
	p := piece(1, 4, 1)
	for _, c := range []struct {
		l    []track.Version
		want []track.State
	}{
		{versions(version(1, 2, p), version(2, 3, p)), []track.State{state(1, 3, p)}},
		{versions(version(1, 2, p), version(3, 4, p)), []track.State{state(1, 2, p), state(3, 4, p)}},
		{versions(version(1, 2, p), version(2, 3, piece(1, 4, 2)), version(3, 4, p)), []track.State{state(1, 2, p), state(2, 3, piece(1, 4, 2)), state(3, 4, p)}},
		{versions(version(1, 2, p), version(2, 3, piece(1, 3, 1)), version(2, 9, piece(3, 4, 1)), version(3, 9, piece(1, 2, 1)), version(3, 9, piece(2, 3, 1)), version(9, end, p)), []track.State{state(1, end, p)}},
		{versions(version(1, 5, p), version(2, 4, piece(4, 6, 1))), []track.State{state(1, 2, p), state(2, 4, piece(1, 6, 1)), state(4, 5, p)}},
		{versions(version(1, 5, p), version(2, 4, piece(4, 6, 2))), []track.State{state(1, 2, p), state(2, 4, p, piece(4, 6, 2)), state(4, 5, p)}},
		{versions(version(1, 5, p), version(5, 6, piece(1, 5, 1))), []track.State{state(1, 5, p), state(5, 6, piece(1, 5, 1))}},
		{versions(version(1, 5, holding(1, 4)), version(5, 6, period.Piece{Valid: of(1, 4), Row: []api.Value{}}), version(6, 7, holding(1, 4, api.Value{}))), []track.State{state(1, 6, holding(1, 4)), state(6, 7, holding(1, 4, api.Value{}))}},
		{versions(version(1, 9, piece(6, 9, 1)), version(2, 9, piece(1, 2, 1)), version(3, 9, piece(3, 4, 1))), []track.State{state(1, 2, piece(6, 9, 1)), state(2, 3, piece(1, 2, 1), piece(6, 9, 1)), state(3, 9, piece(1, 2, 1), piece(3, 4, 1), piece(6, 9, 1))}},
	} {
		checkStates(t, "between", track.Between(c.l, of(0, end)), c.want)
	}
}
