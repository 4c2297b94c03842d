package track_test

import (
	"slices"
	"testing"
	"unsafe"

	"memoir/api"
	"memoir/period"
	"memoir/track"
)

// copyOf is versions that share no list with others.
func copyOf(l []track.Version) []track.Version {
	var c []track.Version
	for _, v := range l {
		v.Piece.Row = slices.Clone(v.Piece.Row)
		c = append(c, v)
	}
	return c
}

// asVersions is pieces in the form of versions, so that all answers can be looked at in one way.
func asVersions(l []period.Piece) []track.Version {
	var c []track.Version
	for _, p := range l {
		c = append(c, track.Version{Piece: p})
	}
	return c
}

// answer is what one call told: its lists, and how to write over all of them.
type answer struct {
	told     []track.Version
	scribble func()
}

// scribbleRow writes over values, and over the room behind them.
func scribbleRow(row []api.Value) {
	row = row[:cap(row)]
	for i := range row {
		row[i] = integer(-7)
	}
}

func scribblePieces(l []period.Piece) {
	for _, p := range l {
		scribbleRow(p.Row)
	}
	l = l[:cap(l)]
	for i := range l {
		l[i] = holding(-7, -8, integer(-7))
	}
}

func scribble(l []track.Version) {
	for _, v := range l {
		scribbleRow(v.Piece.Row)
	}
	l = l[:cap(l)]
	for i := range l {
		l[i] = version(-7, -8, holding(-7, -8, integer(-7)))
	}
}

func ofVersions(l []track.Version) answer {
	return answer{l, func() { scribble(l) }}
}

func ofPieces(l []period.Piece) answer {
	return answer{asVersions(l), func() { scribblePieces(l) }}
}

func ofStates(l []track.State) answer {
	var told []track.Version
	for _, s := range l {
		told = append(told, asVersions(s.Pieces)...)
	}
	return answer{told, func() {
		for _, s := range l {
			scribblePieces(s.Pieces)
		}
		clear(l[:cap(l)])
	}}
}

// answers is what each call makes of the same arguments.
func answers(l []track.Version, p []period.Piece) []answer {
	var all []answer
	for _, at := range []int{30, 31} {
		for _, q := range [][]period.Piece{p, nil, p[:1]} {
			set, _ := track.Set(l, at, q)
			all = append(all, ofVersions(set))
		}
	}
	bad := append(versions(version(3, 3, piece(1, 2, 1))), l...)
	return append(all,
		ofVersions(track.Vacuum(l, 0)), ofVersions(track.Vacuum(l, 8)), ofVersions(track.Vacuum(bad, 8)),
		ofVersions(track.Coalesce(l)), ofVersions(track.Coalesce(bad)),
		ofPieces(track.At(l, 6)), ofPieces(track.At(l, 30)),
		ofStates(track.Between(l, of(0, end))), ofStates(track.Between(l, of(6, 31))),
	)
}

// roomy is versions with room behind each list, where other values stand.
func roomy(l []track.Version) []track.Version {
	long := append(copyOf(l), version(40, 41, piece(50, 51, 5)), version(41, 42, piece(51, 52, 5)))
	for i, v := range long {
		n := len(v.Piece.Row)
		long[i].Piece.Row = append(v.Piece.Row, integer(99), integer(98))[:n]
	}
	return long[:len(l)]
}

// roomyPieces is likewise the pieces of versions.
func roomyPieces(l []track.Version) []period.Piece {
	var c []period.Piece
	for _, v := range roomy(l)[:len(l)+2] {
		c = append(c, v.Piece)
	}
	return c[:len(l)]
}

func room(l []track.Version) []track.Version {
	c := slices.Clone(l[:cap(l)])
	for i, v := range c {
		c[i].Piece.Row = slices.Clone(v.Piece.Row[:cap(v.Piece.Row)])
	}
	return c
}

// before is versions with some that touch, and are the same, in both times, and with open ones, one of them from 30 on.
func before() []track.Version {
	return versions(version(5, 7, piece(1, 4, 1)), version(5, 30, piece(4, 6, 1)), version(7, end, piece(1, 4, 1)), version(8, end, piece(9, 12, 2)), version(30, end, piece(6, 8, 3)))
}

func TestNewMemory(t *testing.T) { // R4
	l := roomy(before())
	p := roomyPieces(versions(version(0, 1, piece(1, 4, 1)), version(0, 1, piece(4, 5, 1)), version(0, 1, piece(9, 12, 3))))
	wasL, wasP := room(l), room(asVersions(p))
	want := answers(l, p)
	for i := range want {
		want[i].told = copyOf(want[i].told)
	}
	for i := range want { // what is done to one answer is to be seen nowhere else
		got := answers(l, p)
		got[i].scribble()
		for j := range got {
			if i != j {
				check(t, "another answer", got[j].told, want[j].told)
			}
		}
		if !alike(room(l), wasL) || !alike(room(asVersions(p)), wasP) {
			t.Fatalf("answer %d shares memory with what was handed in, or has changed it", i)
		}
	}
	got := answers(l, p)
	scribble(l)
	scribblePieces(p)
	for i := range got {
		check(t, "what was told stays", got[i].told, want[i].told)
	}
}

// TestListsApart: no two lists of one answer share any memory.
func TestListsApart(t *testing.T) { // R4
	shared := []api.Value{integer(1), integer(2)}
	l := before()
	for i := range l {
		l[i].Piece.Row = shared
	}
	p := list(holding(1, 4, shared...), holding(4, 5, shared...), holding(9, 12, shared...))
	p[1].Row = append(p[1].Row, integer(3))
	for _, got := range answers(l, p) {
		for i, v := range got.told {
			was := copyOf(got.told)
			row := v.Piece.Row
			scribbleRow(row)
			check(t, "those ahead", got.told[:i], was[:i])
			check(t, "those behind", got.told[i+1:], was[i+1:])
			copy(row, was[i].Piece.Row)
		}
	}
	want := track.Between(l, of(0, end))
	for i := range want {
		got := track.Between(l, of(0, end))
		scribblePieces(got[i].Pieces)
		checkStates(t, "the states ahead", got[:i], want[:i])
		checkStates(t, "the states behind", got[i+1:], want[i+1:])
	}
}

// TestTexts: texts' bytes are not those that were handed in.
func TestTexts(t *testing.T) { // R4
	bytes := []byte("at")
	s := unsafe.String(&bytes[0], len(bytes))
	l := before()
	for i := range l {
		l[i].Piece.Row = []api.Value{text(s)}
	}
	all := answers(l, list(holding(1, 4, text(s)), holding(4, 5, text(s)), holding(9, 12, integer(3))))
	clear(bytes)
	for i, got := range all {
		for _, v := range got.told {
			for _, value := range v.Piece.Row {
				if value.Kind == api.Text && value.S != "at" {
					t.Errorf("answer %d: %v", i, got.told)
				}
			}
		}
	}
}
