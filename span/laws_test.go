package span_test

import (
	"testing"

	"memoir/api"
	"memoir/span"
)

// TestWhole: what is cut, and what meets, is the whole, and no time is in both.
func TestWhole(t *testing.T) { // P11.5
	for _, a := range spans() {
		for _, b := range spans() {
			cut := span.Cut(a, b)
			meet, _ := span.Meet(a, b)
			checkSpans(t, "cut and meet", span.Norm(append(cut, meet)...), span.Norm(a))
			for _, s := range cut {
				if both, is := span.Meet(s, b); is {
					t.Errorf("%v of %v cut by %v: both have %v", s, a, b, both)
				}
			}
			if other, _ := span.Meet(b, a); other != meet {
				t.Errorf("%v and %v: %v, %v", a, b, meet, other)
			}
		}
	}
}

// TestJoined: where two can be one span, that is their norm, and else the norm has both.
func TestJoined(t *testing.T) { // P11.2, P11.4, P11.5
	for _, a := range spans() {
		for _, b := range spans() {
			join, can := span.Join(a, b)
			norm := span.Norm(a, b)
			if can {
				checkSpans(t, "norm of two", norm, []api.Span{join})
			} else if right(a) && right(b) && len(norm) != 2 {
				t.Errorf("%v and %v: %v", a, b, norm)
			}
			meet, _ := span.Meet(a, b)
			parts := append(span.Cut(a, b), meet)
			parts = append(parts, span.Cut(b, a)...)
			checkSpans(t, "all parts of two", span.Norm(parts...), norm)
		}
	}
}

// TestNormIsNormal: the norm of a norm is itself, its spans rise and are apart, and each of what it was made of is covered.
func TestNormIsNormal(t *testing.T) { // P11.4, P11.5
	c := chance(2)
	for _, at := range rows() {
		for range 2000 {
			l := c.spans(at, 7)
			norm := span.Norm(l...)
			checkSpans(t, "norm of a norm", span.Norm(norm...), norm)
			for i, s := range norm {
				if !span.Right(s) || !span.Covers(l, s) || i > 0 && s.From <= norm[i-1].To {
					t.Fatalf("%v: %v", l, norm)
				}
			}
			for _, s := range l {
				if !span.Covers(norm, s) {
					t.Fatalf("%v has not %v", norm, s)
				}
			}
		}
	}
}
