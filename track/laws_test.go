package track_test

import (
	"slices"
	"testing"

	"memoir/api"
	"memoir/period"
	"memoir/track"
)

// chance is numbers that look mixed, the same ones each time.
type chance uint32

func (c *chance) below(n int) int {
	*c = *c*1664525 + 1013904223
	return int(*c>>8) % n
}

// span is one with two of some rising times.
func (c *chance) span(at []int) api.Span {
	from := c.below(len(at) - 1)
	return of(at[from], at[from+1+c.below(len(at)-1-from)])
}

// pieces is right ones with bounds of at; each row is one of some numbers.
func (c *chance) pieces(at []int, rows int) []period.Piece {
	var l []period.Piece
	sparse := 1 + c.below(3)
	for i := 0; i+1 < len(at); {
		if c.below(sparse) > 0 {
			i++
			continue
		}
		to := min(i+1+c.below(3), len(at)-1)
		l = append(l, piece(at[i], at[to], c.below(rows)))
		i = to
	}
	return l
}

func meet(a, b api.Span) bool {
	return max(a.From, b.From) < min(a.To, b.To)
}

func inTurn(v, w track.Version) int {
	if v.Sys.From != w.Sys.From {
		return v.Sys.From - w.Sys.From
	}
	return v.Piece.Valid.From - w.Piece.Valid.From
}

// plainRight holds each of versions, whose spans and values can be, against each other one.
func plainRight(l []track.Version) bool {
	for i, v := range l {
		for _, w := range l[:i] {
			if inTurn(w, v) > 0 || meet(v.Sys, w.Sys) && meet(v.Piece.Valid, w.Piece.Valid) {
				return false
			}
		}
	}
	return true
}

func plainAt(l []track.Version, t int) []period.Piece {
	var all []period.Piece
	for _, v := range l {
		if v.Sys.From <= t && t < v.Sys.To {
			all = append(all, v.Piece)
		}
	}
	slices.SortFunc(all, func(a, b period.Piece) int { return a.Valid.From - b.Valid.From })
	return all
}

func plainOne(l []period.Piece) []period.Piece {
	var few []period.Piece
	for _, p := range l {
		last := len(few) - 1
		if last >= 0 && few[last].Valid.To == p.Valid.From && slices.Equal(few[last].Row, p.Row) {
			few[last].Valid.To = p.Valid.To
		} else {
			few = append(few, p)
		}
	}
	return few
}

// plainBetween asks for what was had at each of rising times, of which all that can be told have both bounds.
func plainBetween(l []track.Version, s api.Span, at []int) []track.State {
	var states []track.State
	for i := 0; i+1 < len(at); i++ {
		if at[i] < s.From || at[i] >= s.To {
			continue
		}
		had := plainOne(plainAt(l, at[i]))
		last := len(states) - 1
		if last >= 0 && states[last].Sys.To == at[i] && alikePieces(states[last].Pieces, had) {
			states[last].Sys.To = at[i+1]
		} else if len(had) > 0 {
			states = append(states, state(at[i], at[i+1], had...))
		}
	}
	return states
}

func has(l []period.Piece, p period.Piece) bool {
	return slices.ContainsFunc(l, func(q period.Piece) bool { return alikePiece(p, q) })
}

func plainSet(l []track.Version, t int, p []period.Piece) []track.Version {
	var set []track.Version
	var had []period.Piece
	for _, v := range l {
		if v.Sys.To == end {
			had = append(had, v.Piece)
			if !has(p, v.Piece) {
				v.Sys.To = t
			}
		}
		if v.Sys.From < v.Sys.To {
			set = append(set, v)
		}
	}
	for _, q := range p {
		if !has(had, q) {
			set = append(set, version(t, end, q))
		}
	}
	slices.SortFunc(set, inTurn)
	return set
}

func plainLast(l []track.Version) int {
	n := 0
	for _, v := range l {
		n = max(n, v.Sys.From)
		if v.Sys.To != end {
			n = max(n, v.Sys.To)
		}
	}
	return n
}

// plainCoalesce makes two one as long as there are two.
func plainCoalesce(l []track.Version) []track.Version {
	l = slices.Clone(l)
	for i := 0; i < len(l); i++ {
		for j := 0; j < len(l); j++ {
			if l[i].Sys.To == l[j].Sys.From && alikePiece(l[i].Piece, l[j].Piece) {
				l[i].Sys.To = l[j].Sys.To
				l = slices.Delete(l, j, j+1)
				i, j = 0, -1
			}
		}
	}
	return l
}

func plainVacuum(l []track.Version, h int) []track.Version {
	return slices.DeleteFunc(slices.Clone(l), func(v track.Version) bool { return v.Sys.To <= h })
}

// checkTold holds what right versions are told to be against the plain words, at rising times among which are all theirs.
func checkTold(t *testing.T, l []track.Version, at []int) {
	t.Helper()
	if track.Last(l) != plainLast(l) {
		t.Errorf("the last time of %v: %d", l, track.Last(l))
	}
	few := track.Coalesce(l)
	check(t, "coalesced", few, plainCoalesce(l))
	if !track.Right(few) {
		t.Errorf("coalesced: %v is not right", few)
	}
	for i, time := range at {
		was := plainAt(l, time)
		checkPieces(t, "at", track.At(l, time), was)
		checkPieces(t, "coalesced, at", track.At(few, time), was)
		left := track.Vacuum(l, time)
		check(t, "vacuumed", left, plainVacuum(l, time))
		for _, later := range at[i:] {
			checkPieces(t, "vacuumed, at", track.At(left, later), plainAt(l, later))
		}
	}
}

func checkBetween(t *testing.T, l []track.Version, s api.Span, at []int) {
	t.Helper()
	checkStates(t, "between", track.Between(l, s), plainBetween(l, s, at))
}

// checkChange holds a Set of right versions against the plain words; it tells what it made.
func checkChange(t *testing.T, l []track.Version, time int, p []period.Piece, at []int) []track.Version {
	t.Helper()
	checkSet(t, l, time, p, plainSet(l, time, p), api.OK)
	set, _ := track.Set(l, time, p)
	if !track.Right(set) {
		t.Errorf("set: %v is not right", set)
	}
	for _, other := range at[:len(at)-1] {
		if other < time {
			checkPieces(t, "ahead of a set", track.At(set, other), plainAt(l, other))
		} else {
			checkPieces(t, "behind a set", track.At(set, other), p)
		}
	}
	return set
}

// allPieces is all right pieces with bounds from 0 to last, whose rows are 1 and 2.
func allPieces(last int) [][]period.Piece {
	all := [][]period.Piece{nil}
	for i := 0; i < len(all); i++ {
		begin := 0
		if n := len(all[i]); n > 0 {
			begin = all[i][n-1].Valid.To
		}
		for from := begin; from < last; from++ {
			for to := from + 1; to <= last; to++ {
				for n := 1; n <= 2; n++ {
					all = append(all, append(slices.Clone(all[i]), piece(from, to, n)))
				}
			}
		}
	}
	return all
}

// allVersions is all lists of at most so many versions with bounds of few times, right ones and others.
func allVersions(at []int, most int) [][]track.Version {
	var single []track.Version
	for i, from := range at {
		for _, to := range at[i+1:] {
			for _, valid := range []api.Span{of(0, 1), of(1, 2), of(0, 2)} {
				for n := 1; n <= 2; n++ {
					single = append(single, version(from, to, piece(valid.From, valid.To, n)))
				}
			}
		}
	}
	all := [][]track.Version{nil}
	for i := 0; i < len(all) && len(all[i]) < most; i++ {
		for _, v := range single {
			all = append(all, append(slices.Clone(all[i]), v))
		}
	}
	return all
}

// TestAllFew goes over all lists of few versions, at few times.
func TestAllFew(t *testing.T) { // P14.1, P14.2, P14.3, P14.4, P14.5, P14.6, P14.7
	at := []int{0, 1, 2, 3, end}
	right := 0
	for _, l := range append(allVersions(at[:4], 3), allVersions(at[2:], 3)...) {
		if track.Right(l) != plainRight(l) {
			t.Fatalf("%v is right: %v", l, track.Right(l))
		}
		if !plainRight(l) {
			continue
		}
		right++
		checkTold(t, l, at)
		for i, from := range at {
			for _, to := range at[i+1:] {
				checkBetween(t, l, of(from, to), at)
			}
		}
		if t.Failed() {
			t.FailNow()
		}
	}
	if right < 1000 {
		t.Errorf("only %d right ones", right)
	}
}

// TestAllSets goes over all rows of three Sets among few pieces and times.
func TestAllSets(t *testing.T) { // P14.2, P14.7
	at := []int{0, 1, 2, 3, 4, end}
	made := [][]track.Version{nil}
	for range 3 {
		var more [][]track.Version
		for _, l := range made {
			for time := plainLast(l); time < 4; time++ {
				for _, p := range allPieces(2) {
					more = append(more, checkChange(t, l, time, p, at))
				}
			}
			if t.Failed() {
				t.FailNow()
			}
		}
		made = more
	}
	for i := 0; i < len(made); i += 7 { // what is made in so many ways is alike in many
		checkTold(t, made[i], at)
		checkBetween(t, made[i], of(0, end), at)
	}
}

// bounds is rising times of several kinds: few and many, near to one another and wide apart.
func bounds() [][]int {
	var few, many []int
	for t := range 7 {
		few = append(few, t)
	}
	for t := range 40 {
		many = append(many, t*2)
	}
	return [][]int{append(few, end), append(many, end), {0, 1, 2, 9, 1000, end - 2, end - 1, end}, {0, end}}
}

// TestWalk sets what one key has many times, as transactions may, and now and then vacuums and coalesces.
func TestWalk(t *testing.T) { // P14.2, P14.3, P14.4, P14.7
	c := chance(1)
	for _, at := range bounds() {
		for range 60 {
			var l []track.Version
			for i := 0; i < len(at)-1; i += c.below(3) {
				p := c.pieces(at, 3)
				if i > 0 && c.below(3) == 0 {
					p = period.Put(plainAt(l, at[i]), c.span(at), []api.Value{integer(c.below(3))})
				}
				l = checkChange(t, l, at[i], p, at)
				if c.below(9) == 0 {
					break
				}
			}
			checkTold(t, l, at)
			checkBetween(t, l, of(0, end), at)
			checkBetween(t, l, c.span(at), at)
			l = track.Vacuum(track.Coalesce(l), at[c.below(len(at))])
			checkBetween(t, l, c.span(at), at)
		}
	}
}

// TestMixed goes over versions that no row of Sets needs to make: they begin and end one by one.
func TestMixed(t *testing.T) { // P14.1, P14.3, P14.4, P14.5, P14.6
	c := chance(2)
	right, bad := 0, 0
	for _, at := range bounds() {
		for range 1500 {
			var l []track.Version
			for range c.below(12) {
				s, valid := c.span(at), c.span(at)
				l = append(l, version(s.From, s.To, piece(valid.From, valid.To, c.below(2))))
				slices.SortStableFunc(l, inTurn)
				if !plainRight(l) && c.below(9) > 0 {
					l = slices.DeleteFunc(l, func(v track.Version) bool { return v.Sys == s && v.Piece.Valid == valid })
				}
			}
			if track.Right(l) != plainRight(l) {
				t.Fatalf("%v is right: %v", l, track.Right(l))
			}
			if !plainRight(l) {
				bad++
				continue
			}
			right++
			checkTold(t, l, at)
			checkBetween(t, l, c.span(at), at)
			checkChange(t, l, max(plainLast(l), 0), c.pieces(at, 2), at)
			if t.Failed() {
				t.FailNow()
			}
		}
	}
	if right < 1000 || bad < 500 {
		t.Errorf("%d right ones, %d others", right, bad)
	}
}

// TestLong: of many versions each call is done soon.
func TestLong(t *testing.T) { // P14.1, P14.2, P14.3, P14.4, P14.5, P14.6
	const n = 50000
	var turns, same, beside []track.Version
	var pieces []period.Piece
	for i := range n {
		turns = append(turns, version(i, i+1, piece(0, 9, i%2)))
		same = append(same, version(i, i+1, piece(0, 9, 7)))
		beside = append(beside, version(i/1000, end, piece(i, i+1, i%2)))
		pieces = append(pieces, piece(i, i+1, i%2))
	}
	check(t, "coalesced", track.Coalesce(turns), turns)
	check(t, "coalesced to one", track.Coalesce(same), versions(version(0, n, piece(0, 9, 7))))
	check(t, "vacuumed", track.Vacuum(turns, n-1), turns[n-1:])
	checkStates(t, "all the same", track.Between(same, of(0, end)), []track.State{state(0, n, piece(0, 9, 7))})
	if got := track.Between(turns, of(0, end)); len(got) != n {
		t.Errorf("%d states", len(got))
	}
	checkPieces(t, "at", track.At(turns, n-1), list(turns[n-1].Piece))
	checkPieces(t, "at", track.At(beside, n), pieces)
	checkSet(t, turns, n, pieces[:1], append(slices.Clone(turns), version(n, end, pieces[0])), api.OK)
	checkSet(t, beside, n, pieces, beside, api.OK)
	if got := track.Between(beside, of(0, end)); len(got) != n/1000 || !alikePieces(got[n/1000-1].Pieces, pieces) {
		t.Errorf("%d states", len(got))
	}
	if got, e := track.Set(beside, n, nil); len(got) != n || e != api.OK || track.Last(got) != n {
		t.Errorf("%d versions, %d", len(got), e)
	}
}
