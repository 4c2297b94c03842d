package track

import (
	"cmp"
	"slices"
	"strings"

	"memoir/api"
	"memoir/period"
)

// told is what is to be told of versions: each one anew, in the system time that the question answers of it, or not at all.
func told(l []Version, sys func(Version) (api.Span, bool)) []Version {
	var all []Version
	for _, v := range l {
		if s, is := sys(v); is {
			all = append(all, Version{Sys: s, Piece: period.Piece{Valid: v.Piece.Valid, Row: copied(v.Piece.Row)}})
		}
	}
	return all
}

// whole has a version told as it is.
func whole(v Version) (api.Span, bool) {
	return v.Sys, true
}

// pieces is the pieces of versions, by their valid periods.
func pieces(l []Version) []period.Piece {
	var all []period.Piece
	for _, v := range l {
		all = append(all, v.Piece)
	}
	slices.SortFunc(all, func(a, b period.Piece) int { return cmp.Compare(a.Valid.From, b.Valid.From) })
	return all
}

func open(v Version) bool {
	return v.Sys.To == api.MaxTime
}

// inOrder is the order in which versions stand.
func inOrder(v, w Version) int {
	return cmp.Or(cmp.Compare(v.Sys.From, w.Sys.From), cmp.Compare(v.Piece.Valid.From, w.Piece.Valid.From))
}

// apart tells whether of versions, right ones each and in their order, no two whose system times meet have valid periods that meet.
func apart(l []Version) bool {
	var latest []Version // of each valid time the last one ahead, rising: what it has displaced had ended, and can meet none behind
	for _, v := range l {
		valid := v.Piece.Valid
		first, _ := slices.BinarySearchFunc(latest, valid.From, func(w Version, t int) int { return cmp.Compare(w.Piece.Valid.To, t+1) })
		behind := first
		for behind < len(latest) && latest[behind].Piece.Valid.From < valid.To {
			if latest[behind].Sys.To > v.Sys.From {
				return false
			}
			behind++
		}
		latest = slices.Replace(latest, first, behind, v)
	}
	return true
}

// begins tells whether one of some right pieces begins at a time.
func begins(l []period.Piece, t int) bool {
	_, is := slices.BinarySearchFunc(l, t, func(p period.Piece, t int) int { return cmp.Compare(p.Valid.From, t) })
	return is
}

// follower is where the version stands that goes on with the same piece where one ends: of right ones there is at most one.
func follower(l []Version, v Version) (int, bool) {
	v.Sys.From = v.Sys.To
	place, is := slices.BinarySearchFunc(l, v, inOrder)
	return place, is && samePiece(l[place].Piece, v.Piece)
}

// turn is the versions that are had at a time, and those that begin behind it, out of those that were had and those that had not begun.
func turn(had, rest []Version, t int) ([]Version, []Version) {
	n := 0
	for n < len(rest) && rest[n].Sys.From <= t {
		n++
	}
	over := func(v Version) bool { return v.Sys.To <= t }
	return slices.DeleteFunc(append(had, rest[:n]...), over), rest[n:]
}

// change is the first time at which one of those that are had ends, or one of the rest begins.
func change(had, rest []Version) int {
	t := api.MaxTime
	for _, v := range had {
		t = min(t, v.Sys.To)
	}
	if len(rest) > 0 {
		t = min(t, rest[0].Sys.From)
	}
	return t
}

// joined is states with one more behind them, which the last one goes on into, if it is the same; one of nothing is not told.
func joined(l []State, s State) []State {
	if len(s.Pieces) == 0 {
		return l
	}
	last := len(l) - 1
	if last >= 0 && l[last].Sys.To == s.Sys.From && period.Same(l[last].Pieces, s.Pieces) {
		l[last].Sys.To = s.Sys.To
		return l
	}
	return append(l, s)
}

func samePiece(a, b period.Piece) bool {
	return period.Same([]period.Piece{a}, []period.Piece{b})
}

// copied is values that share nothing with a row, not their texts' bytes either.
func copied(row []api.Value) []api.Value {
	l := slices.Clone(row)
	for i := range l {
		l[i].S = strings.Clone(l[i].S)
	}
	return l
}
