package value_test

import (
	"math"
	"testing"

	"memoir/api"
	"memoir/value"
)

const (
	least    = math.MinInt
	greatest = math.MaxInt
)

var minusZero = math.Copysign(0, -1)

func integer(n int) api.Value     { return api.Value{Kind: api.Int, N: n} }
func bits(n uint64) api.Value     { return api.Value{Kind: api.Float, Bits: n} }
func bytesOf(s string) api.Value  { return api.Value{Kind: api.Bytes, S: s} }
func textOf(s string) api.Value   { return api.Value{Kind: api.Text, S: s} }
func filled(n int, c byte) string { return string(repeat(n, c)) }

func repeat(n int, c byte) []byte {
	l := make([]byte, n)
	for i := range l {
		l[i] = c
	}
	return l
}

// ordered is right values, each below the next one.
func ordered() []api.Value {
	l := []api.Value{{}, {Kind: api.Bool}, {Kind: api.Bool, N: 1}}
	for _, n := range []int{least, least + 1, -1 << 32, -256, -1, 0, 1, 9, 10, 255, 1 << 53, 1<<53 + 1, greatest - 1, greatest} {
		l = append(l, integer(n))
	}
	for _, f := range orderedNumbers() {
		l = append(l, value.OfFloat(f))
	}
	l = append(l, value.OfFloat(math.NaN()))
	for _, s := range orderedTexts() {
		l = append(l, bytesOf(s))
	}
	for _, s := range orderedTexts() {
		l = append(l, textOf(s))
	}
	return l
}

func orderedNumbers() []float64 {
	const tiny = math.SmallestNonzeroFloat64
	return []float64{math.Inf(-1), -math.MaxFloat64, -1e300, -2, -1.5, -1, -0x1p-1022, -tiny, 0, tiny, 0x1p-1022, 0.1, 1, 1.5, 2, 1e300, math.MaxFloat64, math.Inf(1)}
}

func orderedTexts() []string {
	long := filled(api.MaxText, 'y')
	return []string{"", "\x00", "\x00\x00", "\x00\xff", "\x01", "\x1f", " ", "!", "\"", "10", "9", "A", "\\", "a", "a\x00", "aa", "ab", "b", long[:len(long)-1], long, "z", "~", "\x7f", "\x80", "\xc3\xa9", "\xff", "\xff\xff"}
}

// wrong is values that are not right.
func wrong() []api.Value {
	return []api.Value{
		{Kind: -1}, {Kind: 6}, {Kind: least}, {Kind: greatest}, {Kind: 1 << 32}, {Kind: -1, N: 1}, {Kind: 6, S: "a"},
		{N: 1}, {N: -1}, {Bits: 1}, {S: "a"},
		{Kind: api.Bool, N: 2}, {Kind: api.Bool, N: -1}, {Kind: api.Bool, N: least}, {Kind: api.Bool, N: 1, Bits: 1}, {Kind: api.Bool, S: "a"},
		{Kind: api.Int, N: 7, Bits: 1}, {Kind: api.Int, S: "7"},
		{Kind: api.Float, N: 1}, {Kind: api.Float, S: "1"}, {Kind: api.Float, Bits: 0x3ff0 << 48, N: 1},
		bits(1 << 63),
		bits(0x7ff8<<48 + 1), bits(0x7ff0<<48 + 1), bits(0x7fff << 48), bits(0xfff8 << 48), bits(0xfff0<<48 + 1), bits(math.MaxUint64),
		{Kind: api.Bytes, S: "a", N: 1}, {Kind: api.Bytes, S: "a", Bits: 1}, bytesOf(filled(api.MaxText+1, 'a')), bytesOf(filled(2*api.MaxText, 0)),
		{Kind: api.Text, S: "a", N: -1}, {Kind: api.Text, Bits: 1 << 63}, textOf(filled(api.MaxText+1, 'a')), textOf(filled(api.MaxText+1, 0)),
	}
}

func TestRight(t *testing.T) { // P1.1
	for _, v := range ordered() {
		if !value.Right(v) {
			t.Errorf("%.40v: not right", v)
		}
	}
	for i, v := range wrong() {
		if value.Right(v) {
			t.Errorf("wrong value %d: right", i)
		}
	}
	for _, n := range []uint64{0, 1, 0x3ff0 << 48, 0x7fef<<48 + 1, 0x7ff0 << 48, 0x7ff8 << 48, 1<<63 + 1, 0xfff0 << 48} {
		if !value.Right(bits(n)) {
			t.Errorf("Bits %x: not right", n)
		}
	}
}

func TestOfFloat(t *testing.T) { // P1.1
	for _, c := range []struct {
		f    float64
		bits uint64
	}{
		{0, 0}, {minusZero, 0},
		{1, 0x3ff0 << 48}, {-1, 0xbff0 << 48}, {-2.5, 0xc004 << 48}, {0.1, 0x3fb999999999999a},
		{math.SmallestNonzeroFloat64, 1}, {-math.SmallestNonzeroFloat64, 1<<63 + 1},
		{math.MaxFloat64, 0x7fefffffffffffff}, {-math.MaxFloat64, 0xffefffffffffffff},
		{math.Inf(1), 0x7ff0 << 48}, {math.Inf(-1), 0xfff0 << 48},
		{math.NaN(), 0x7ff8 << 48}, {math.Copysign(math.NaN(), -1), 0x7ff8 << 48},
		{math.Float64frombits(0x7ff0<<48 + 1), 0x7ff8 << 48}, {math.Float64frombits(math.MaxUint64), 0x7ff8 << 48},
	} {
		if v := value.OfFloat(c.f); v != bits(c.bits) {
			t.Errorf("OfFloat(%v) = %v, want Bits %x", c.f, v, c.bits)
		}
	}
}

func TestAsFloat(t *testing.T) { // P1.1
	for _, f := range append(orderedNumbers(), 0.3, -1e-9, math.Pi) {
		if g := value.AsFloat(value.OfFloat(f)); math.Float64bits(g) != math.Float64bits(f) {
			t.Errorf("AsFloat of %v = %v", f, g)
		}
	}
	if f := value.AsFloat(value.OfFloat(minusZero)); math.Float64bits(f) != 0 {
		t.Errorf("AsFloat of minus zero = %v", f)
	}
	if f := value.AsFloat(bits(0x7ff8 << 48)); !math.IsNaN(f) {
		t.Errorf("AsFloat of what is no number = %v", f)
	}
	for i, v := range append(wrong(), ordered()...) {
		if v.Kind == api.Float && value.Right(v) {
			continue
		}
		if f := value.AsFloat(v); math.Float64bits(f) != 0 {
			t.Errorf("AsFloat of value %d = %v, want 0", i, f)
		}
	}
}

func TestCompareAndSame(t *testing.T) { // P1.2
	l := ordered()
	for i, a := range l {
		for k, b := range l {
			want := 0
			if i < k {
				want = -1
			} else if i > k {
				want = 1
			}
			if n := value.Compare(a, b); n != want {
				t.Errorf("Compare(%.40v, %.40v) = %d, want %d", a, b, n, want)
			}
			if value.Same(a, b) != (i == k) {
				t.Errorf("Same(%.40v, %.40v) = %v", a, b, i != k)
			}
		}
	}
}

func TestCompareAndSameOfWrong(t *testing.T) { // P1.2
	l := wrong()
	for i, a := range l {
		for _, b := range append(ordered(), l...) {
			if value.Compare(a, b) != 0 || value.Compare(b, a) != 0 {
				t.Errorf("Compare of wrong value %d and %.40v is not 0", i, b)
			}
			if value.Same(a, b) || value.Same(b, a) {
				t.Errorf("Same of wrong value %d and %.40v", i, b)
			}
		}
	}
}

func TestSameOfOneKind(t *testing.T) { // P1.2
	if !value.Same(textOf("ab"), textOf(string([]byte{'a', 'b'}))) || !value.Same(value.OfFloat(minusZero), value.OfFloat(0)) || !value.Same(value.OfFloat(math.NaN()), value.OfFloat(-math.NaN())) {
		t.Error("alike, but not the same")
	}
	if value.Same(textOf("a"), bytesOf("a")) || value.Same(integer(0), value.OfFloat(0)) || value.Same(integer(1), api.Value{Kind: api.Bool, N: 1}) || value.Same(api.Value{}, textOf("")) {
		t.Error("of two kinds, but the same")
	}
}

func TestTruth(t *testing.T) { // P1.4
	if n := value.Truth(api.Value{Kind: api.Bool}); n != 0 {
		t.Errorf("Truth of false = %d", n)
	}
	if n := value.Truth(api.Value{Kind: api.Bool, N: 1}); n != 1 {
		t.Errorf("Truth of true = %d", n)
	}
	for _, v := range append(wrong(), ordered()...) {
		if v.Kind == api.Bool && value.Right(v) {
			continue
		}
		if n := value.Truth(v); n != -1 {
			t.Errorf("Truth(%.40v) = %d, want -1", v, n)
		}
	}
}

func TestOrderGoesOn(t *testing.T) { // P1.5
	l := mixed()
	for _, a := range l {
		for _, b := range l {
			n := value.Compare(a, b)
			if n < -1 || n > 1 || n != -value.Compare(b, a) || (n == 0) != value.Same(a, b) {
				t.Fatalf("%v, %v: not just one of below, the same, above: %d", a, b, n)
			}
			for _, c := range l {
				if n <= 0 && value.Compare(b, c) <= 0 && value.Compare(a, c) > 0 {
					t.Fatalf("%v, %v, %v: the order does not go on", a, b, c)
				}
			}
		}
	}
}

func TestNumbersAndFloats(t *testing.T) { // P1.5
	l := mixed()
	for _, a := range l {
		for _, b := range l {
			if a.Kind != api.Float || b.Kind != api.Float {
				continue
			}
			below := math.Float64frombits(a.Bits) < math.Float64frombits(b.Bits)
			number := !math.IsNaN(math.Float64frombits(a.Bits)) && !math.IsNaN(math.Float64frombits(b.Bits))
			if number && below != (value.Compare(a, b) < 0) {
				t.Errorf("%v, %v: not as the numbers are", a, b)
			}
		}
	}
}

// mixed is right values of all kinds, by a rule, in no order, some of them twice.
func mixed() []api.Value {
	var l []api.Value
	n := uint64(1)
	for range 60 {
		n = n*6364136223846793005 + 1442695040888963407
		text := string([]byte{byte(n >> 60), byte(n >> 20), byte(n >> 33)}[:n>>40%4])
		l = append(l, integer(int(n)), integer(int(n>>61)), value.OfFloat(math.Float64frombits(n)), value.OfFloat(float64(int(n>>60))-8), bytesOf(text), textOf(text))
	}
	return append(l, ordered()[:3]...)
}
