package period

import (
	"cmp"
	"slices"
	"strings"

	"memoir/api"
	"memoir/span"
	"memoir/value"
)

// told is what is to be told of pieces: each one's row, anew for each span that the question answers of it.
func told(l []Piece, spans func(Piece) []api.Span) []Piece {
	var all []Piece
	for _, p := range l {
		for _, s := range spans(p) {
			all = append(all, Piece{Valid: s, Row: copied(p.Row)})
		}
	}
	return all
}

// whole has a piece told as it is.
func whole(p Piece) []api.Span {
	return []api.Span{p.Valid}
}

// without is the pieces of a that are not among those of b; both are right.
func without(a, b []Piece) []Piece {
	return told(a, func(p Piece) []api.Span {
		if among(b, p) {
			return nil
		}
		return whole(p)
	})
}

// among tells whether right pieces have one: of these no two begin together.
func among(l []Piece, p Piece) bool {
	place, is := slices.BinarySearchFunc(l, p.Valid.From, func(q Piece, from int) int { return cmp.Compare(q.Valid.From, from) })
	return is && same(l[place], p)
}

// same holds values against each other by all that they have: those that are not right can be the same, too.
func same(a, b Piece) bool {
	return a.Valid == b.Valid && slices.Equal(a.Row, b.Row)
}

func rightPiece(p Piece) bool {
	isWrong := func(v api.Value) bool { return !value.Right(v) }
	return span.Right(p.Valid) && !slices.ContainsFunc(p.Row, isWrong)
}

// copied is values that share nothing with a row, not their texts' bytes either.
func copied(row []api.Value) []api.Value {
	l := slices.Clone(row)
	for i := range l {
		l[i].S = strings.Clone(l[i].S)
	}
	return l
}
