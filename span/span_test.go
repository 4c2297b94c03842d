package span_test

import (
	"math"
	"slices"
	"testing"

	"memoir/api"
	"memoir/span"
)

const end = 1 << 40

func of(from, to int) api.Span { return api.Span{From: from, To: to} }

// bounds is where the tests' spans begin and end, rising: what can't be a time stands at both sides.
func bounds() []int {
	return []int{math.MinInt, -end, -1, 0, 1, 2, 3, 5, end - 2, end - 1, end, end + 1, math.MaxInt}
}

// spans is each pair of bounds, in either order.
func spans() []api.Span {
	var l []api.Span
	for _, from := range bounds() {
		for _, to := range bounds() {
			l = append(l, of(from, to))
		}
	}
	return l
}

// has tells whether a span has a time, as the chapter's words tell it.
func has(s api.Span, t int) bool {
	if s.From < 0 || s.To <= s.From || s.To > end {
		return false
	}
	return t >= s.From && t < s.To
}

func right(s api.Span) bool { return has(s, s.From) }

// anyHas tells whether one of some spans has a time.
func anyHas(l []api.Span, t int) bool {
	for _, s := range l {
		if has(s, t) {
			return true
		}
	}
	return false
}

// runs is the longest spans of times that are chosen, rising. All times from one of the bounds up to the next one are chosen together, so one of them is asked.
func runs(at []int, chosen func(t int) bool) []api.Span {
	var l []api.Span
	open := false
	for i, from := range at {
		if i+1 == len(at) || !chosen(from) {
			open = false
			continue
		}
		if !open {
			l = append(l, of(from, 0))
		}
		open = true
		l[len(l)-1].To = at[i+1]
	}
	return l
}

// single is the only one of some spans, and whether there is one alone.
func single(l []api.Span) (api.Span, bool) {
	if len(l) != 1 {
		return api.Span{}, false
	}
	return l[0], true
}

func checkSpans(t *testing.T, what string, got, want []api.Span) {
	t.Helper()
	if !slices.Equal(got, want) {
		t.Errorf("%s: %v, not %v", what, got, want)
	}
}

func TestRight(t *testing.T) { // P11.1
	for _, s := range []api.Span{of(0, 1), of(0, end), of(1, 2), of(end-1, end), of(7, 1000)} {
		if !span.Right(s) {
			t.Errorf("%v is not right", s)
		}
	}
	for _, s := range []api.Span{{}, of(-1, 1), of(-1, 0), of(3, 3), of(4, 3), of(0, end+1), of(end-1, end+1), of(end, end), of(end, end+1), of(end, 0), of(5, -5), of(-5, -3), of(math.MinInt, math.MaxInt), of(math.MaxInt, math.MinInt), of(0, math.MaxInt), of(math.MinInt, 1)} {
		if span.Right(s) {
			t.Errorf("%v is right", s)
		}
	}
	for _, s := range spans() {
		if span.Right(s) != right(s) {
			t.Errorf("%v is right: %v", s, span.Right(s))
		}
	}
}

func TestHas(t *testing.T) { // P11.1
	for _, c := range []struct {
		s   api.Span
		t   int
		has bool
	}{
		{of(3, 5), 2, false}, {of(3, 5), 3, true}, {of(3, 5), 4, true}, {of(3, 5), 5, false}, {of(3, 5), 6, false},
		{of(0, end), 0, true}, {of(0, end), end - 1, true}, {of(0, end), end, false}, {of(0, end), -1, false},
		{of(0, end+1), 0, false}, {of(-1, 5), 0, false}, {of(-1, 5), -1, false}, {of(5, 3), 4, false}, {of(4, 4), 4, false}, {of(0, 0), 0, false},
	} {
		if span.Has(c.s, c.t) != c.has {
			t.Errorf("%v has %d: not %v", c.s, c.t, c.has)
		}
	}
	for _, s := range spans() {
		for _, b := range bounds() {
			for _, at := range []int{b - 1, b, b + 1} { // at the ends of all numbers these wrap round, to others that are no times
				if span.Has(s, at) != has(s, at) {
					t.Errorf("%v has %d: %v", s, at, span.Has(s, at))
				}
			}
		}
	}
}

// two is what the calls on two spans are to tell.
type two struct {
	a, b, meet, join api.Span
	cut              []api.Span
}

func TestTwo(t *testing.T) { // P11.2, P11.3
	none := api.Span{}
	for _, c := range []two{
		{of(1, 9), of(3, 4), of(3, 4), of(1, 9), []api.Span{of(1, 3), of(4, 9)}},
		{of(3, 4), of(1, 9), of(3, 4), of(1, 9), nil},
		{of(1, 9), of(1, 9), of(1, 9), of(1, 9), nil},
		{of(1, 9), of(1, 4), of(1, 4), of(1, 9), []api.Span{of(4, 9)}},
		{of(1, 9), of(4, 9), of(4, 9), of(1, 9), []api.Span{of(1, 4)}},
		{of(1, 5), of(4, 9), of(4, 5), of(1, 9), []api.Span{of(1, 4)}},
		{of(4, 9), of(1, 5), of(4, 5), of(1, 9), []api.Span{of(5, 9)}},
		{of(1, 5), of(5, 9), none, of(1, 9), []api.Span{of(1, 5)}},
		{of(5, 9), of(1, 5), none, of(1, 9), []api.Span{of(5, 9)}},
		{of(1, 5), of(6, 9), none, none, []api.Span{of(1, 5)}},
		{of(6, 9), of(1, 5), none, none, []api.Span{of(6, 9)}},
		{of(0, end), of(1, 2), of(1, 2), of(0, end), []api.Span{of(0, 1), of(2, end)}},
		{of(0, 1), of(end-1, end), none, none, []api.Span{of(0, 1)}},
		{of(3, 3), of(1, 9), none, none, nil},
		{of(1, 9), of(3, 3), none, none, []api.Span{of(1, 9)}},
		{of(1, 9), of(4, 3), none, none, []api.Span{of(1, 9)}},
		{of(1, 9), of(-1, 3), none, none, []api.Span{of(1, 9)}},
		{of(-1, 3), of(1, 9), none, none, nil},
		{of(1, 9), of(3, end+1), none, none, []api.Span{of(1, 9)}},
		{of(3, end+1), of(1, 9), none, none, nil},
		{none, none, none, none, nil},
	} {
		checkTwo(t, c)
	}
}

func checkTwo(t *testing.T, c two) {
	t.Helper()
	meet, is := span.Meet(c.a, c.b)
	if meet != c.meet || is != (c.meet != api.Span{}) {
		t.Errorf("%v and %v meet: %v, %v, not %v", c.a, c.b, meet, is, c.meet)
	}
	join, can := span.Join(c.a, c.b)
	if join != c.join || can != (c.join != api.Span{}) {
		t.Errorf("%v and %v join: %v, %v, not %v", c.a, c.b, join, can, c.join)
	}
	checkSpans(t, "cut", span.Cut(c.a, c.b), c.cut)
}

// TestAllPairs holds all pairs of spans with these bounds against the times that they have.
func TestAllPairs(t *testing.T) { // P11.2, P11.3
	for _, a := range spans() {
		for _, b := range spans() {
			c := two{a: a, b: b}
			c.meet, _ = single(runs(bounds(), func(t int) bool { return has(a, t) && has(b, t) }))
			if right(a) && right(b) {
				c.join, _ = single(runs(bounds(), func(t int) bool { return has(a, t) || has(b, t) }))
			}
			c.cut = runs(bounds(), func(t int) bool { return has(a, t) && !has(b, t) })
			checkTwo(t, c)
		}
	}
}

func TestCutIsNew(t *testing.T) { // R4
	a, b := of(1, 9), of(3, 4)
	first, second := span.Cut(a, b), span.Cut(a, b)
	scribble(first)
	checkSpans(t, "cut", second, []api.Span{of(1, 3), of(4, 9)})
}

// scribble writes over a list, and the spare room behind it.
func scribble(l []api.Span) {
	l = l[:cap(l)]
	for i := range l {
		l[i] = of(-7, -8)
	}
}
