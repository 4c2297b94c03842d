package track_test

import (
	"math"
	"slices"
	"strings"
	"testing"

	"memoir/api"
	"memoir/period"
	"memoir/track"
)

const end = 1 << 40

func of(from, to int) api.Span { return api.Span{From: from, To: to} }

func integer(n int) api.Value { return api.Value{Kind: api.Int, N: n} }

func text(s string) api.Value { return api.Value{Kind: api.Text, S: s} }

// piece is a row of one number, valid from one time up to another one.
func piece(from, to, n int) period.Piece {
	return holding(from, to, integer(n))
}

// holding is a piece of any values.
func holding(from, to int, row ...api.Value) period.Piece {
	return period.Piece{Valid: of(from, to), Row: row}
}

func list(l ...period.Piece) []period.Piece { return l }

// version is a piece that was had from one time up to another one.
func version(from, to int, p period.Piece) track.Version {
	return track.Version{Sys: of(from, to), Piece: p}
}

func versions(l ...track.Version) []track.Version { return l }

func state(from, to int, l ...period.Piece) track.State {
	return track.State{Sys: of(from, to), Pieces: l}
}

// The helpers below hold answers against others without the package.

func alikePiece(a, b period.Piece) bool {
	return a.Valid.From == b.Valid.From && a.Valid.To == b.Valid.To && slices.Equal(a.Row, b.Row)
}

func alikePieces(a, b []period.Piece) bool {
	return slices.EqualFunc(a, b, alikePiece)
}

func alike(a, b []track.Version) bool {
	return slices.EqualFunc(a, b, func(v, w track.Version) bool { return v.Sys == w.Sys && alikePiece(v.Piece, w.Piece) })
}

func check(t *testing.T, what string, got, want []track.Version) {
	t.Helper()
	if !alike(got, want) {
		t.Errorf("%s: %v, not %v", what, got, want)
	}
}

func checkPieces(t *testing.T, what string, got, want []period.Piece) {
	t.Helper()
	if !alikePieces(got, want) {
		t.Errorf("%s: %v, not %v", what, got, want)
	}
}

func checkStates(t *testing.T, what string, got, want []track.State) {
	t.Helper()
	if !slices.EqualFunc(got, want, func(a, b track.State) bool { return a.Sys == b.Sys && alikePieces(a.Pieces, b.Pieces) }) {
		t.Errorf("%s: %v, not %v", what, got, want)
	}
}

func checkSet(t *testing.T, l []track.Version, at int, p []period.Piece, want []track.Version, e api.Errno) {
	t.Helper()
	got, err := track.Set(l, at, p)
	if !alike(got, want) || err != e {
		t.Errorf("set of %v at %d of %v: %v, %d, not %v, %d", p, at, l, got, err, want, e)
	}
}

// some is right versions: a piece that stays, one that is cut up at 7 and whole again at 9, and one that ends there and comes again at 20.
func some() []track.Version {
	return versions(
		version(5, end, piece(1, 4, 1)), version(5, 7, piece(4, 9, 2)), version(5, 9, piece(20, end, 3)),
		version(7, 9, piece(4, 6, 2)), version(7, 9, piece(6, 9, 3)),
		version(9, end, piece(4, 9, 2)),
		version(20, end, piece(20, end, 3)),
	)
}

// wrongSpans is spans that can't be.
func wrongSpans() []api.Span {
	return []api.Span{{}, of(3, 3), of(4, 3), of(-1, 3), of(-1, 0), of(0, end+1), of(end, end), of(end, end+1), of(9, -9), of(math.MinInt, math.MaxInt), of(math.MaxInt, math.MinInt)}
}

// wrongValues is values that can't be.
func wrongValues() []api.Value {
	return []api.Value{{Kind: 9}, {Kind: -1}, {N: 1}, {S: "a"}, {Kind: api.Bool, N: 2}, {Kind: api.Int, Bits: 1}, {Kind: api.Float, Bits: 1 << 63}, {Kind: api.Text, S: strings.Repeat("a", 4097)}}
}

// wrongPieces is pieces none of which can be that of a version.
func wrongPieces() []period.Piece {
	var all []period.Piece
	for _, s := range wrongSpans() {
		all = append(all, piece(s.From, s.To, 1))
	}
	for _, v := range wrongValues() {
		all = append(all, holding(1, 3, v), holding(1, 3, integer(1), v), holding(1, 3, v, integer(1)))
	}
	return all
}

// wrong is versions that are not right, of each kind that the chapter's words rule out.
func wrong() [][]track.Version {
	p := piece(1, 4, 1)
	all := [][]track.Version{
		// they meet in both times
		versions(version(3, 6, p), version(3, 6, p)),
		versions(version(3, 6, p), version(5, 9, piece(3, 5, 1))),
		versions(version(3, 6, piece(3, 5, 1)), version(5, 9, p)),
		versions(version(3, 9, p), version(4, 5, piece(2, 3, 2))),
		versions(version(3, end, piece(2, 3, 1)), version(end-1, end, p)),
		versions(version(3, 4, p), version(3, 4, piece(3, 4, 1))),
		versions(version(0, 2, piece(2, 6, 1)), version(0, 9, piece(6, 8, 1)), version(2, 3, piece(1, 4, 1)), version(3, 4, piece(3, 6, 1)), version(4, 5, piece(5, 7, 1))),
		versions(version(0, 9, piece(1, 2, 1)), version(0, 1, piece(2, 3, 1)), version(0, 9, piece(3, 4, 1)), version(5, 6, piece(2, 4, 1))),
		// they stand in another order
		versions(version(5, 6, p), version(3, 4, piece(4, 5, 1))),
		versions(version(5, 6, p), version(3, 4, p)),
		versions(version(3, 4, piece(4, 5, 1)), version(3, 4, p)),
		versions(version(3, 5, piece(4, 5, 1)), version(3, 4, p)),
		versions(version(1, 2, p), version(4, 5, p), version(2, 3, p)),
	}
	for _, s := range wrongSpans() {
		all = append(all, versions(version(s.From, s.To, p)), versions(version(1, 3, p), version(s.From, s.To, piece(7, 9, 1))), versions(version(s.From, s.To, piece(7, 9, 1)), version(5, 7, p)))
	}
	for _, q := range wrongPieces() {
		all = append(all, versions(version(1, 3, q)), versions(version(1, 3, p), version(4, 6, q)), versions(version(1, 3, q), version(4, 6, p)))
	}
	return all
}

func TestExample(t *testing.T) { // P14.2, P14.4
	first, _ := track.Set(nil, 5, list(piece(1, 4, 1)))
	second, _ := track.Set(first, 9, list(piece(1, 4, 2)))
	checkStates(t, "all", track.Between(second, of(0, end)), []track.State{state(5, 9, piece(1, 4, 1)), state(9, end, piece(1, 4, 2))})
}

func TestRight(t *testing.T) { // P14.1
	p := piece(1, 4, 1)
	for _, l := range [][]track.Version{
		nil, {}, some(),
		versions(version(0, end, piece(0, end, 1))), versions(version(0, 1, p)), versions(version(end-1, end, piece(end-1, end, 1))),
		versions(version(3, 6, p), version(6, 9, p)), versions(version(3, 6, p), version(8, 9, p)),
		versions(version(3, 6, p), version(3, 6, piece(4, 5, 1))), versions(version(3, 6, piece(4, 5, 1)), version(4, 6, p)),
		versions(version(3, 6, p), version(4, 9, piece(4, 5, 1)), version(6, 7, piece(0, 4, 1)), version(7, 8, piece(3, 4, 1))),
		versions(version(1, 2, piece(7, 9, 1)), version(2, 3, p), version(2, 3, piece(7, 8, 1))),
		versions(version(3, 6, holding(1, 2)), version(4, 6, period.Piece{Valid: of(2, 3), Row: []api.Value{}})),
		versions(version(3, 6, holding(1, 2, api.Value{}, text(strings.Repeat("a", 4096)), api.Value{Kind: api.Float, Bits: 0x7ff8000000000000}))),
	} {
		if !track.Right(l) {
			t.Errorf("%v is not right", l)
		}
	}
	for _, l := range wrong() {
		if track.Right(l) {
			t.Errorf("%v is right", l)
		}
	}
}

func TestSame(t *testing.T) { // P14.1
	lists := append(wrong(),
		nil, some(), some()[:3], some()[1:],
		versions(version(3, 6, piece(1, 4, 1))), versions(version(3, 7, piece(1, 4, 1))), versions(version(2, 6, piece(1, 4, 1))),
		versions(version(3, 6, piece(1, 5, 1))), versions(version(3, 6, piece(2, 4, 1))), versions(version(3, 6, piece(1, 4, 2))),
		versions(version(3, 5, piece(1, 4, 1)), version(5, 6, piece(1, 4, 1))), versions(version(3, 5, piece(1, 4, 1)), version(5, 6, piece(1, 4, 2))), versions(version(3, 5, piece(1, 4, 2)), version(5, 6, piece(1, 4, 1))),
		versions(version(3, 6, holding(1, 4))), versions(version(3, 6, holding(1, 4, api.Value{}))), versions(version(3, 6, holding(1, 4, integer(1), integer(1)))),
		versions(version(3, 6, holding(1, 4, text("1")))), versions(version(3, 6, holding(1, 4, api.Value{Kind: api.Bytes, S: "1"}))), versions(version(3, 6, holding(1, 4, api.Value{Kind: api.Bool, N: 1}))),
	)
	for i, a := range lists {
		for j, b := range lists {
			if track.Same(a, copyOf(b)) != (i == j) {
				t.Errorf("%v and %v are the same: not %v", a, b, i == j)
			}
		}
	}
	empty := versions(version(3, 6, period.Piece{Valid: of(1, 2), Row: []api.Value{}}))
	none := versions(version(3, 6, holding(1, 2)))
	if !track.Same(nil, []track.Version{}) || !track.Same([]track.Version{}, nil) || !track.Same(empty, none) || !track.Same(none, empty) {
		t.Error("a nil list is an empty one")
	}
}

func TestLast(t *testing.T) { // P14.1
	p, q := piece(1, 4, 1), piece(4, 5, 1)
	for _, c := range []struct {
		l    []track.Version
		want int
	}{
		{nil, 0}, {some(), 20}, {some()[:6], 9}, {some()[:5], 9}, {some()[:1], 5},
		{versions(version(0, end, p)), 0}, {versions(version(3, end, p)), 3}, {versions(version(3, 8, p)), 8}, {versions(version(3, end-1, p)), end - 1}, {versions(version(end-1, end, p)), end - 1},
		{versions(version(3, 9, p), version(4, 6, q)), 9}, {versions(version(3, 4, p), version(4, 6, q)), 6}, {versions(version(3, 4, p), version(8, end, q)), 8}, {versions(version(3, 9, p), version(8, end, q)), 9}, {versions(version(3, end, p), version(8, 9, q)), 9},
	} {
		if got := track.Last(c.l); got != c.want {
			t.Errorf("the last time of %v: %d, not %d", c.l, got, c.want)
		}
	}
	for _, l := range wrong() {
		if got := track.Last(l); got != 0 {
			t.Errorf("the last time of %v: %d", l, got)
		}
	}
}

func TestAt(t *testing.T) { // P14.3
	early := list(piece(1, 4, 1), piece(4, 9, 2), piece(20, end, 3))
	cut := list(piece(1, 4, 1), piece(4, 6, 2), piece(6, 9, 3))
	for at, want := range map[int][]period.Piece{
		math.MinInt: nil, -1: nil, 0: nil, 4: nil, 5: early, 6: early, 7: append(slices.Clone(cut), early[2]), 8: append(slices.Clone(cut), early[2]), 9: early[:2], 19: early[:2], 20: early, end - 1: early, end: nil, end + 1: nil, math.MaxInt: nil,
	} {
		checkPieces(t, "at", track.At(some(), at), want)
	}
	// what began later can be valid earlier
	turned := versions(version(3, end, piece(6, 9, 1)), version(4, end, piece(1, 2, 1)), version(5, 7, piece(4, 6, 1)))
	checkPieces(t, "in order", track.At(turned, 6), list(piece(1, 2, 1), piece(4, 6, 1), piece(6, 9, 1)))
	touching := versions(version(3, end, piece(4, 6, 1)), version(4, end, piece(1, 4, 1)))
	checkPieces(t, "not coalesced", track.At(touching, 6), list(piece(1, 4, 1), piece(4, 6, 1)))
	checkPieces(t, "at the edges", track.At(versions(version(0, end, piece(0, end, 1))), 0), list(piece(0, end, 1)))
	checkPieces(t, "of nothing", track.At(nil, 0), nil)
	values := []api.Value{{}, integer(-5), text("a"), {Kind: api.Bool, N: 1}, {Kind: api.Float, Bits: 0x7ff8000000000000}, {Kind: api.Bytes, S: "\x00"}}
	checkPieces(t, "any values", track.At(versions(version(3, 4, holding(1, 2, values...))), 3), list(holding(1, 2, values...)))
	for _, l := range wrong() {
		for at := -1; at < 10; at++ {
			checkPieces(t, "of what is not right", track.At(l, at), nil)
		}
	}
}
