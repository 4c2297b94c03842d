package period_test

import (
	"slices"
	"testing"
	"unsafe"

	"memoir/api"
	"memoir/period"
)

// chance is numbers that look mixed, the same ones each time.
type chance uint32

func (c *chance) below(n int) int {
	*c = *c*1664525 + 1013904223
	return int(*c>>8) % n
}

// pieces is right ones with bounds of at, which rise; each row is one of some numbers.
func (c *chance) pieces(at []int, rows int) []period.Piece {
	var l []period.Piece
	sparse := 1 + c.below(3)
	for i := 0; i+1 < len(at); {
		if c.below(sparse) > 0 {
			i++
			continue
		}
		to := min(i+1+c.below(3), len(at)-1)
		l = append(l, piece(at[i], at[to], c.below(rows)))
		i = to
	}
	return l
}

func (c *chance) span(at []int) api.Span {
	from := c.below(len(at) - 1)
	return of(at[from], at[from+1+c.below(len(at)-1-from)])
}

// bounds is rising times of several kinds: few and many, near to one another and wide apart.
func bounds() [][]int {
	var few, many []int
	for t := range 7 {
		few = append(few, t)
	}
	for t := range 50 {
		many = append(many, t*2)
	}
	return [][]int{few, many, {0, 1, 2, 9, 1000, end - 2, end - 1, end}, {0, end}}
}

// allPieces is all right pieces with bounds from 0 to last, whose rows are 1 and 2.
func allPieces(last int) [][]period.Piece {
	all := [][]period.Piece{nil}
	for i := 0; i < len(all); i++ {
		begin := 0
		if n := len(all[i]); n > 0 {
			begin = all[i][n-1].Valid.To
		}
		for from := begin; from < last; from++ {
			for to := from + 1; to <= last; to++ {
				for n := 1; n <= 2; n++ {
					all = append(all, append(slices.Clone(all[i]), piece(from, to, n)))
				}
			}
		}
	}
	return all
}

// plainAt asks one piece behind the other.
func plainAt(l []period.Piece, t int) []api.Value {
	for _, p := range l {
		if p.Valid.From <= t && t < p.Valid.To {
			return p.Row
		}
	}
	return nil
}

// plainDrop tells each piece's times that s has not.
func plainDrop(l []period.Piece, s api.Span) []period.Piece {
	var left []period.Piece
	for _, p := range l {
		if p.Valid.To <= s.From || s.To <= p.Valid.From {
			left = append(left, p)
			continue
		}
		if p.Valid.From < s.From {
			left = append(left, period.Piece{Valid: of(p.Valid.From, s.From), Row: p.Row})
		}
		if s.To < p.Valid.To {
			left = append(left, period.Piece{Valid: of(s.To, p.Valid.To), Row: p.Row})
		}
	}
	return left
}

func plainPut(l []period.Piece, s api.Span, row []api.Value) []period.Piece {
	left := append(plainDrop(l, s), period.Piece{Valid: s, Row: row})
	slices.SortFunc(left, func(a, b period.Piece) int { return a.Valid.From - b.Valid.From })
	return left
}

// plainCoalesce is the longest runs of times with the same row, each asked for at each of the bounds.
func plainCoalesce(l []period.Piece, at []int) []period.Piece {
	var runs []period.Piece
	for i := 0; i+1 < len(at); i++ {
		row := plainAt(l, at[i])
		last := len(runs) - 1
		if last >= 0 && runs[last].Valid.To == at[i] && slices.Equal(runs[last].Row, row) {
			runs[last].Valid.To = at[i+1]
		} else if row != nil {
			runs = append(runs, period.Piece{Valid: of(at[i], at[i+1]), Row: row})
		}
	}
	return runs
}

func plainWithout(a, b []period.Piece) []period.Piece {
	var left []period.Piece
	for _, p := range a {
		if !slices.ContainsFunc(b, func(q period.Piece) bool { return alikePiece(p, q) }) {
			left = append(left, p)
		}
	}
	return left
}

// checkAll holds what one call makes of right pieces against the plain words.
func checkAll(t *testing.T, at []int, l []period.Piece, s api.Span, row []api.Value) {
	t.Helper()
	put, drop := period.Put(l, s, row), period.Drop(l, s)
	check(t, "put", put, plainPut(l, s, row))
	check(t, "drop", drop, plainDrop(l, s))
	if !period.Right(l) || !period.Right(put) || !period.Right(drop) {
		t.Errorf("put %v: %v; dropped: %v: not right", l, put, drop)
	}
	for _, time := range at {
		was := plainAt(l, time)
		checkAt(t, l, time, was)
		if s.From <= time && time < s.To {
			checkAt(t, put, time, row)
			checkAt(t, drop, time, nil)
			continue
		}
		checkAt(t, put, time, was)
		checkAt(t, drop, time, was)
	}
}

// checkAt: what is valid at a time; nil is nothing.
func checkAt(t *testing.T, l []period.Piece, time int, want []api.Value) {
	t.Helper()
	row, ok := period.At(l, time)
	if !slices.Equal(row, want) || ok != (want != nil) {
		t.Errorf("%v at %d: %v, %v, not %v", l, time, row, ok, want)
	}
}

func checkCoalesce(t *testing.T, at []int, l []period.Piece) {
	t.Helper()
	few := period.Coalesce(l)
	check(t, "coalesced", few, plainCoalesce(l, at))
	check(t, "coalesced twice", period.Coalesce(few), few)
	for _, time := range at {
		checkAt(t, few, time, plainAt(l, time))
	}
}

// checkDiff also asks that what stays, with what comes, is the second one.
func checkDiff(t *testing.T, a, b []period.Piece) {
	t.Helper()
	goes, comes := period.Diff(a, b)
	check(t, "goes", goes, plainWithout(a, b))
	check(t, "comes", comes, plainWithout(b, a))
	made := append(plainWithout(a, goes), comes...)
	slices.SortFunc(made, func(a, b period.Piece) int { return a.Valid.From - b.Valid.From })
	check(t, "what stays and comes", made, b)
}

// TestAllFew goes over all right pieces of few times.
func TestAllFew(t *testing.T) { // P12.2, P12.3, P12.4, P12.6
	at := []int{0, 1, 2, 3, 4, 5}
	for _, l := range allPieces(5) {
		checkCoalesce(t, at, l)
		for from := range 5 {
			for to := from + 1; to <= 5; to++ {
				checkAll(t, at, l, of(from, to), []api.Value{integer(1)})
			}
		}
	}
}

func TestAllDiffs(t *testing.T) { // P12.5
	all := allPieces(3)
	for _, a := range all {
		for _, b := range all {
			checkDiff(t, a, b)
		}
	}
}

// TestChance goes over mixed pieces, far more of them, and over some that are near to one another.
func TestChance(t *testing.T) { // P12.2, P12.3, P12.4, P12.5, P12.6
	c := chance(1)
	for _, at := range bounds() {
		for range 1500 {
			l := c.pieces(at, 3)
			checkAll(t, at, l, c.span(at), []api.Value{integer(c.below(3))})
			checkCoalesce(t, at, l)
			checkDiff(t, l, c.pieces(at, 3))
			near := l
			for range c.below(4) {
				near = plainPut(near, c.span(at), []api.Value{integer(c.below(3))})
			}
			checkDiff(t, l, near)
			checkDiff(t, near, l)
		}
	}
}

// TestWalk puts and drops many times, as one key may be changed.
func TestWalk(t *testing.T) { // P12.6
	c := chance(2)
	at := bounds()[1]
	rows := map[int][]api.Value{}
	var l []period.Piece
	for range 600 {
		s, row := c.span(at), []api.Value{integer(c.below(5)), text("a")}
		if c.below(3) == 0 {
			l, row = period.Drop(l, s), nil
		} else {
			l = period.Put(l, s, row)
		}
		for _, time := range at {
			if s.From <= time && time < s.To {
				rows[time] = row
			}
			checkAt(t, l, time, rows[time])
		}
		if c.below(5) == 0 {
			l = period.Coalesce(l)
		}
	}
}

// TestLong: of many pieces each call is done soon.
func TestLong(t *testing.T) { // P12.1, P12.2, P12.4, P12.5
	const n = 100000
	var l []period.Piece
	for i := range n {
		l = append(l, piece(i, i+1, i%2))
	}
	check(t, "put", period.Put(l, of(1, n-1), []api.Value{integer(2)}), list(piece(0, 1, 0), piece(1, n-1, 2), piece(n-1, n, 1)))
	check(t, "drop", period.Drop(l, of(0, n-1)), list(piece(n-1, n, 1)))
	check(t, "coalesced", period.Coalesce(l), l)
	other := copyOf(l)
	other[n/2].Row[0].N = 7
	goes, comes := period.Diff(l, other)
	check(t, "goes", goes, l[n/2:n/2+1])
	check(t, "comes", comes, other[n/2:n/2+1])
	for i := range other {
		other[i].Row[0].N = 7
	}
	check(t, "coalesced to one", period.Coalesce(other), list(piece(0, n, 7)))
	goes, comes = period.Diff(l, other)
	check(t, "all go", goes, l)
	check(t, "all come", comes, other)
}

// scribble writes over all that pieces have, and over the room behind them.
func scribble(l []period.Piece) {
	for _, p := range l {
		values := p.Row[:cap(p.Row)]
		for i := range values {
			values[i] = integer(-7)
		}
	}
	l = l[:cap(l)]
	for i := range l {
		l[i] = holding(-7, -8, integer(-7))
	}
}

// answers is what each call makes of the same arguments, each list by itself.
func answers(l, other []period.Piece, s api.Span, row []api.Value) [][]period.Piece {
	goes, comes := period.Diff(l, other)
	at, _ := period.At(l, 1)
	return [][]period.Piece{
		period.Put(l, s, row), period.Put(l, of(3, 3), row), period.Put(other, s, row), period.Drop(l, s), period.Drop(l, of(3, 3)), period.Drop(l, of(900, 901)),
		period.Coalesce(l), period.Coalesce(other), period.Coalesce(append(list(piece(3, 3, 1)), l...)), goes, comes, list(period.Piece{Row: at}),
	}
}

// roomy is pieces with room behind each list, where other values stand.
func roomy(l []period.Piece) []period.Piece {
	long := append(copyOf(l), piece(500, 501, 5), piece(501, 502, 5))
	for i, p := range long {
		n := len(p.Row)
		long[i].Row = append(p.Row, integer(99), integer(98))[:n]
	}
	return long[:len(l)]
}

func room(l []period.Piece) []period.Piece {
	c := copyOf(l[:cap(l)])
	for i := range l {
		c[i].Row = slices.Clone(l[i].Row[:cap(l[i].Row)])
	}
	return c
}

func TestNewMemory(t *testing.T) { // R4
	l := roomy(list(piece(1, 9, 1), piece(9, 12, 1), piece(12, 15, 2)))
	other := roomy(list(piece(1, 9, 1), piece(20, 22, 1), piece(22, 23, 1)))
	row := roomy(list(piece(0, 1, 4)))
	ask := func() [][]period.Piece { return answers(l, other, of(3, 5), row[0].Row) }
	wasL, wasOther, wasRow := room(l), room(other), room(row)
	want := ask()
	for i := range want {
		want[i] = copyOf(want[i])
	}
	for i := range want { // what is done to one answer is to be seen nowhere else
		got := ask()
		scribble(got[i])
		for j := range got {
			if i != j {
				check(t, "another answer", got[j], want[j])
			}
		}
		if !alike(room(l), wasL) || !alike(room(other), wasOther) || !alike(room(row), wasRow) {
			t.Fatalf("answer %d shares memory with what was handed in, or has changed it", i)
		}
	}
	got := ask()
	scribble(l)
	scribble(other)
	scribble(row)
	for i := range got {
		check(t, "what was told stays", got[i], want[i])
	}
}

// TestRowsApart: no two pieces of one answer share a row.
func TestRowsApart(t *testing.T) { // R4
	shared := []api.Value{integer(1), integer(2)}
	l := list(holding(1, 9, shared...), holding(9, 12, shared...), holding(20, 22, shared...))
	goes, _ := period.Diff(l, nil)
	_, comes := period.Diff(nil, l)
	for _, got := range [][]period.Piece{period.Put(l, of(3, 5), shared), period.Drop(l, of(3, 5)), period.Drop(l, of(5, 5)), period.Put(l, of(5, 5), nil), period.Coalesce(l), period.Coalesce(l[:2]), goes, comes} {
		for i := range got {
			was := copyOf(got)
			row := got[i].Row[:cap(got[i].Row)]
			for j := range row {
				row[j] = integer(-7)
			}
			check(t, "those ahead", got[:i], was[:i])
			check(t, "those behind", got[i+1:], was[i+1:])
			copy(row, was[i].Row)
		}
	}
}

// TestTexts: texts' bytes are not those that were handed in.
func TestTexts(t *testing.T) { // R4
	for i := range answers(nil, nil, of(3, 5), nil) {
		bytes := []byte("at")
		s := unsafe.String(&bytes[0], len(bytes))
		l := list(holding(1, 9, text(s)), holding(9, 12, text(s)))
		other := list(holding(1, 9, integer(1)), holding(9, 12, text(s)))
		got := answers(l, other, of(3, 5), []api.Value{text(s)})[i]
		clear(bytes)
		for _, p := range got {
			for _, v := range p.Row {
				if v.Kind == api.Text && v.S != "at" {
					t.Errorf("answer %d: %v", i, got)
				}
			}
		}
	}
}
