package span_test

import (
	"math"
	"slices"
	"testing"

	"memoir/api"
	"memoir/span"
)

// chance is numbers that look mixed, the same ones each time.
type chance uint32

func (c *chance) below(n int) int {
	*c = *c*1664525 + 1013904223
	return int(*c>>8) % n
}

// span is one with bounds of at; some are not right.
func (c *chance) span(at []int) api.Span {
	s := of(at[c.below(len(at))], at[c.below(len(at))])
	if s.To < s.From && c.below(4) > 0 {
		s.From, s.To = s.To, s.From
	}
	return s
}

func (c *chance) spans(at []int, n int) []api.Span {
	var l []api.Span
	for range c.below(n + 1) {
		l = append(l, c.span(at))
	}
	return l
}

// rows is bounds of several kinds: few and many, near to one another and wide apart.
func rows() [][]int {
	var few, many []int
	for t := -1; t < 8; t++ {
		few = append(few, t)
	}
	for t := -2; t < 60; t++ {
		many = append(many, t)
	}
	return [][]int{bounds(), few, many, {0, 1, 2, end - 1, end}, {0, end}}
}

func TestNorm(t *testing.T) { // P11.4
	for _, c := range []struct{ l, want []api.Span }{
		{[]api.Span{of(1, 3), of(3, 5), of(7, 8)}, []api.Span{of(1, 5), of(7, 8)}},
		{nil, nil},
		{[]api.Span{{}}, nil},
		{[]api.Span{of(3, 3), of(5, 4), of(-1, 3), of(0, end+1), of(math.MinInt, math.MaxInt)}, nil},
		{[]api.Span{of(2, 3)}, []api.Span{of(2, 3)}},
		{[]api.Span{of(2, 3), of(2, 3), of(2, 3)}, []api.Span{of(2, 3)}},
		{[]api.Span{of(7, 8), of(3, 5), of(1, 3)}, []api.Span{of(1, 5), of(7, 8)}},
		{[]api.Span{of(7, 8), of(5, 6), of(3, 4), of(1, 2)}, []api.Span{of(1, 2), of(3, 4), of(5, 6), of(7, 8)}},
		{[]api.Span{of(1, 9), of(2, 3), of(4, 5)}, []api.Span{of(1, 9)}},
		{[]api.Span{of(1, 9), of(2, 3), of(8, 11)}, []api.Span{of(1, 11)}},
		{[]api.Span{of(1, 2), of(1, 5), of(1, 3)}, []api.Span{of(1, 5)}},
		{[]api.Span{of(5, 9), of(1, 3), of(2, 6)}, []api.Span{of(1, 9)}},
		{[]api.Span{of(1, 3), of(3, 3), of(4, 3), of(4, 6)}, []api.Span{of(1, 3), of(4, 6)}},
		{[]api.Span{of(1, 3), of(2, end+1), of(-1, 2), of(5, 6)}, []api.Span{of(1, 3), of(5, 6)}},
		{[]api.Span{of(end-1, end), of(0, 1), of(1, end-1)}, []api.Span{of(0, end)}},
	} {
		checkSpans(t, "norm", span.Norm(c.l...), c.want)
	}
	checkSpans(t, "norm of none", span.Norm(), nil)
	checkSpans(t, "norm of three", span.Norm(of(3, 5), of(7, 8), of(1, 3)), []api.Span{of(1, 5), of(7, 8)})
}

func TestCovers(t *testing.T) { // P11.4
	l := []api.Span{of(7, 9), of(3, 5), of(1, 3), of(20, 19), of(8, 12), of(30, end), of(0, end+1)}
	for _, c := range []struct {
		s      api.Span
		covers bool
	}{
		{of(1, 5), true}, {of(1, 3), true}, {of(2, 4), true}, {of(4, 5), true}, {of(7, 12), true}, {of(9, 11), true}, {of(30, end), true}, {of(end-1, end), true},
		{of(0, 1), false}, {of(0, 2), false}, {of(4, 6), false}, {of(5, 6), false}, {of(5, 7), false}, {of(1, 12), false}, {of(11, 13), false}, {of(0, end), false}, {of(29, end), false},
		{of(6, 6), true}, {of(6, 5), true}, {of(-1, 6), true}, {of(6, end+1), true}, {api.Span{}, true},
	} {
		if span.Covers(l, c.s) != c.covers {
			t.Errorf("%v covers %v: not %v", l, c.s, c.covers)
		}
	}
	if span.Covers(nil, of(0, 1)) || span.Covers([]api.Span{}, of(5, 9)) || span.Covers([]api.Span{of(9, 5)}, of(5, 9)) {
		t.Error("covered by nothing")
	}
	if !span.Covers(nil, of(3, 3)) || !span.Covers(nil, of(-1, 5)) {
		t.Error("a span that is not right has no time that is missed")
	}
}

// TestMany holds rows of spans against the times that they have.
func TestMany(t *testing.T) { // P11.4
	c := chance(1)
	for _, at := range rows() {
		for range 4000 {
			l := c.spans(at, 9)
			norm := runs(at, func(t int) bool { return anyHas(l, t) })
			checkSpans(t, "norm", span.Norm(l...), norm)
			for range 5 {
				s := c.span(at)
				missed := runs(at, func(t int) bool { return has(s, t) && !anyHas(l, t) })
				if span.Covers(l, s) != (len(missed) == 0) {
					t.Fatalf("%v covers %v: not %v", l, s, len(missed) == 0)
				}
			}
		}
	}
}

func TestLong(t *testing.T) { // P11.4
	const n = 200000
	var l, want []api.Span
	for i := range n {
		at := (i * 7919) % n * 3
		l = append(l, of(at, at+2))
		want = append(want, of(i*3, i*3+2))
	}
	checkSpans(t, "norm of many that are apart", span.Norm(l...), want)
	if span.Covers(l, of(0, 3)) || !span.Covers(l, of(n*3-3, n*3-1)) {
		t.Error("covered")
	}
	for i := range l {
		l[i].To++
	}
	checkSpans(t, "norm of many that touch", span.Norm(l...), []api.Span{of(0, n*3)})
	if !span.Covers(l, of(0, n*3)) || span.Covers(l, of(0, n*3+1)) {
		t.Error("not covered")
	}
}

func TestNormIsNew(t *testing.T) { // R4
	room := []api.Span{of(7, 8), of(2, 4), of(3, 3), of(1, 3), of(50, 60), of(40, 50)}
	was := slices.Clone(room)
	l := room[:4]
	first, second := span.Norm(l...), span.Norm(l...)
	span.Covers(l, of(1, 8))
	if !slices.Equal(room, was) {
		t.Errorf("changed: %v", room)
	}
	scribble(first)
	if !slices.Equal(room, was) {
		t.Errorf("shared: %v", room)
	}
	scribble(room)
	checkSpans(t, "norm", second, []api.Span{of(1, 4), of(7, 8)})
	one := []api.Span{of(1, 2)}
	scribble(span.Norm(one...))
	checkSpans(t, "what was handed in", one, []api.Span{of(1, 2)})
}
