package key_test

import (
	"bytes"
	"fmt"
	"math"
	"slices"
	"strings"
	"testing"
	"unsafe"

	"memoir/api"
	"memoir/key"
	"memoir/value"
)

const tiny = math.SmallestNonzeroFloat64

func integer(n int) api.Value       { return api.Value{Kind: api.Int, N: n} }
func boolean(n int) api.Value       { return api.Value{Kind: api.Bool, N: n} }
func bits(n uint64) api.Value       { return api.Value{Kind: api.Float, Bits: n} }
func bytesOf(s string) api.Value    { return api.Value{Kind: api.Bytes, S: s} }
func textOf(s string) api.Value     { return api.Value{Kind: api.Text, S: s} }
func filled(n int, s string) string { return strings.Repeat(s, n) }

// brief tells values, few enough of their bytes to be read.
func brief(l ...api.Value) string { return fmt.Sprintf("%.80q", fmt.Sprint(l)) }

// written is values, and the bytes that each of them has in a key.
func written() []struct {
	v api.Value
	s string
} {
	return []struct {
		v api.Value
		s string
	}{
		{api.Value{}, "\x01"},
		{boolean(0), "\x02\x00"}, {boolean(1), "\x02\x01"},
		{integer(math.MinInt), "\x03\x00\x00\x00\x00\x00\x00\x00\x00"}, {integer(-256), "\x03\x7f\xff\xff\xff\xff\xff\xff\x00"},
		{integer(-1), "\x03\x7f\xff\xff\xff\xff\xff\xff\xff"}, {integer(0), "\x03\x80\x00\x00\x00\x00\x00\x00\x00"}, {integer(1), "\x03\x80\x00\x00\x00\x00\x00\x00\x01"},
		{integer(0x0123456789abcdef), "\x03\x81\x23\x45\x67\x89\xab\xcd\xef"}, {integer(math.MaxInt), "\x03\xff\xff\xff\xff\xff\xff\xff\xff"},
		{value.OfFloat(math.Inf(-1)), "\x04\x00\x0f\xff\xff\xff\xff\xff\xff"}, {value.OfFloat(-math.MaxFloat64), "\x04\x00\x10\x00\x00\x00\x00\x00\x00"},
		{value.OfFloat(-1), "\x04\x40\x0f\xff\xff\xff\xff\xff\xff"}, {value.OfFloat(-tiny), "\x04\x7f\xff\xff\xff\xff\xff\xff\xfe"},
		{value.OfFloat(math.Copysign(0, -1)), "\x04\x80\x00\x00\x00\x00\x00\x00\x00"}, {value.OfFloat(tiny), "\x04\x80\x00\x00\x00\x00\x00\x00\x01"},
		{value.OfFloat(1), "\x04\xbf\xf0\x00\x00\x00\x00\x00\x00"}, {bits(0x0123456789abcdef), "\x04\x81\x23\x45\x67\x89\xab\xcd\xef"},
		{value.OfFloat(math.Inf(1)), "\x04\xff\xf0\x00\x00\x00\x00\x00\x00"}, {value.OfFloat(math.NaN()), "\x04\xff\xf8\x00\x00\x00\x00\x00\x00"},
		{bytesOf(""), "\x05\x00\x01"}, {bytesOf("ab"), "\x05ab\x00\x01"}, {bytesOf("\x00"), "\x05\x00\xff\x00\x01"}, {bytesOf("\xff"), "\x05\xff\x00\x01"},
		{bytesOf("\x00\x00"), "\x05\x00\xff\x00\xff\x00\x01"}, {bytesOf("\x00\xff"), "\x05\x00\xff\xff\x00\x01"}, {bytesOf("\x00\x01"), "\x05\x00\xff\x01\x00\x01"},
		{bytesOf("\x01\x00a\x00"), "\x05\x01\x00\xffa\x00\xff\x00\x01"}, {bytesOf(filled(api.MaxText, "\x00")), "\x05" + filled(api.MaxText, "\x00\xff") + "\x00\x01"},
		{textOf(""), "\x06\x00\x01"}, {textOf("a"), "\x06a\x00\x01"}, {textOf("\x00a"), "\x06\x00\xffa\x00\x01"}, {textOf("\xc3\xa9"), "\x06\xc3\xa9\x00\x01"},
		{textOf(filled(api.MaxText, "\xff")), "\x06" + filled(api.MaxText, "\xff") + "\x00\x01"},
	}
}

// wrong is values that are not right.
func wrong() []api.Value {
	return []api.Value{
		{Kind: -1}, {Kind: 6}, {Kind: 256}, {Kind: 258, N: 1}, {Kind: math.MinInt}, {N: 1}, {Bits: 1}, {S: "a"},
		boolean(2), boolean(-1), boolean(256), {Kind: api.Bool, N: 1, S: "a"},
		{Kind: api.Int, N: 1, Bits: 1}, {Kind: api.Int, S: "1"},
		bits(1 << 63), bits(0x7ff8<<48 + 1), bits(0xfff8 << 48), bits(math.MaxUint64), {Kind: api.Float, N: 1},
		{Kind: api.Bytes, S: "a", N: 1}, bytesOf(filled(api.MaxText+1, "a")), {Kind: api.Text, S: "a", Bits: 1}, textOf(filled(api.MaxText+1, "\x00")),
	}
}

func TestOf(t *testing.T) { // P4.1
	for _, c := range written() {
		if s := key.Of([]api.Value{c.v}); s != c.s+"\x00" {
			t.Errorf("%s: %.40q, not %.40q", brief(c.v), s, c.s+"\x00")
		}
		for _, d := range written() {
			if s := key.Of([]api.Value{c.v, d.v}); s != c.s+d.s+"\x00" {
				t.Errorf("%s: %.40q", brief(c.v, d.v), s)
			}
		}
	}
	if a, b := key.Of(nil), key.Of([]api.Value{}); a != "\x00" || b != "\x00" {
		t.Errorf("%q %q", a, b)
	}
	if s := key.Of([]api.Value{boolean(1), textOf("a")}); s != "\x02\x01\x06a\x00\x01\x00" {
		t.Errorf("%q", s)
	}
}

func TestOfMany(t *testing.T) { // P4.1
	all := written()
	for n := range 20 {
		var l []api.Value
		want := ""
		for i := range n {
			l = append(l, all[i].v)
			want += all[i].s
		}
		want += "\x00"
		if n > 8 {
			want = ""
		}
		if s := key.Of(l); s != want {
			t.Errorf("%d values: %q, not %q", n, s, want)
		}
	}
}

// placed is keys of up to 9 values, one of which is v.
func placed(v api.Value) [][]api.Value {
	var keys [][]api.Value
	for n := 1; n <= 9; n++ {
		for i := range n {
			l := make([]api.Value, n)
			l[i] = v
			keys = append(keys, l)
		}
	}
	return keys
}

func TestWrong(t *testing.T) { // P4.1
	for _, v := range wrong() {
		for _, l := range placed(v) {
			if s := key.Of(l); s != "" {
				t.Errorf("%s: %.40q", brief(l...), s)
			}
			for _, other := range [][]api.Value{nil, {{}}, {boolean(1)}, {textOf("b")}, make([]api.Value, 8), l} {
				if key.Compare(l, other) != 0 || key.Compare(other, l) != 0 {
					t.Errorf("%s against %s: not 0", brief(l...), brief(other...))
				}
			}
		}
	}
}

func TestTooMany(t *testing.T) { // P4.1
	for _, n := range []int{9, 10, 1000, 100000} {
		l := slices.Repeat([]api.Value{boolean(1)}, n)
		if key.Of(l) != "" {
			t.Errorf("%d values have bytes", n)
		}
		for _, other := range [][]api.Value{nil, {boolean(0)}, {integer(0)}, l[:8], l} {
			if key.Compare(l, other) != 0 || key.Compare(other, l) != 0 {
				t.Errorf("%d values against %d: not 0", n, len(other))
			}
		}
	}
}

// ordered is right values, each below the next one.
func ordered() []api.Value {
	l := []api.Value{{}, boolean(0), boolean(1)}
	for _, n := range []int{math.MinInt, -256, -1, 0, 1, 255, 256, math.MaxInt} {
		l = append(l, integer(n))
	}
	for _, f := range []float64{math.Inf(-1), -math.MaxFloat64, -2, -1, -tiny, 0, tiny, 1, 1.5, math.MaxFloat64, math.Inf(1), math.NaN()} {
		l = append(l, value.OfFloat(f))
	}
	texts := []string{"", "\x00", "\x00\x00", "\x00\x01", "\x00\xff", "\x01", "\x01\x00", "a", "a\x00", "a\x00\xff", "a\x01", "aa", "b", "\xff", "\xff\x00", "\xff\xff"}
	for _, s := range texts {
		l = append(l, bytesOf(s))
	}
	for _, s := range texts {
		l = append(l, textOf(s))
	}
	return l
}

// grown is keys of up to n values of l, in their order.
func grown(l []api.Value, n int) [][]api.Value {
	keys := [][]api.Value{nil}
	if n == 0 {
		return keys
	}
	for _, v := range l {
		for _, rest := range grown(l, n-1) {
			keys = append(keys, append([]api.Value{v}, rest...))
		}
	}
	return keys
}

// checkOrder sees that each of the keys, and its bytes, is below all of those behind it.
func checkOrder(t *testing.T, keys [][]api.Value) {
	t.Helper()
	var texts []string
	for _, l := range keys {
		texts = append(texts, key.Of(l))
	}
	for i, a := range keys {
		for j := i; j < len(keys); j++ {
			b, want := keys[j], 0
			if i < j {
				want = -1
			}
			if key.Compare(a, b) != want || key.Compare(b, a) != -want {
				t.Fatalf("%s and %s: %d, %d", brief(a...), brief(b...), key.Compare(a, b), key.Compare(b, a))
			}
			if strings.Compare(texts[i], texts[j]) != want {
				t.Fatalf("%s and %s: bytes %.40q, %.40q", brief(a...), brief(b...), texts[i], texts[j])
			}
		}
	}
}

func TestOrder(t *testing.T) { // P4.1, P4.4
	l := ordered()
	checkOrder(t, grown(l, 1))
	checkOrder(t, grown(l[:20], 2))
	checkOrder(t, grown(l[len(l)-24:], 2))
	checkOrder(t, grown([]api.Value{{}, boolean(1), bytesOf(""), bytesOf("\x00"), textOf(""), textOf("\x00\xff")}, 4))
	checkOrder(t, grown([]api.Value{{}, textOf("\x01")}, 8))
}

func TestOrderOfLong(t *testing.T) { // P4.1, P4.4
	long := filled(api.MaxText, "y")
	same := []api.Value{{}, textOf(long), integer(3), bytesOf(long), boolean(0), value.OfFloat(2), textOf(""), {}}
	var keys [][]api.Value
	for n := range 9 {
		keys = append(keys, same[:n])
	}
	last := slices.Clone(same)
	last[7] = textOf(long[1:])
	more := slices.Clone(same)
	more[7] = textOf(long)
	checkOrder(t, append(keys, last, more, []api.Value{{}, textOf(long), integer(4)}, []api.Value{boolean(0)}))
}

func TestNext(t *testing.T) { // P4.3
	for _, s := range []string{"", "\x00", "\x00\x00", "\x01", "a", "ab", "\xff", "\xff\xff", key.Of(nil), key.Of(ordered()[:8]), filled(100000, "\xff")} {
		if got := key.Next(s); got != s+"\x00" {
			t.Errorf("%.40q: %.40q", s, got)
		}
	}
}

// TestNextIsLeast holds all short rows of some bytes against each other: what is above one is not below its next.
func TestNextIsLeast(t *testing.T) { // P4.3
	all := []string{""}
	for i := 0; len(all[i]) < 3; i++ {
		for _, c := range []string{"\x00", "\x01", "a", "\xff"} {
			all = append(all, all[i]+c)
		}
	}
	for _, a := range all {
		for _, b := range all {
			if (b > a) != (b >= key.Next(a)) {
				t.Errorf("%q is above %q, its next is %q", b, a, key.Next(a))
			}
		}
	}
}

func TestPrefix(t *testing.T) { // P4.3
	keys := grown([]api.Value{{}, boolean(0), integer(0), bits(0), bytesOf(""), textOf(""), textOf("a")}, 3)
	for _, a := range keys {
		for _, b := range keys {
			want := len(a) <= len(b)
			for i := range min(len(a), len(b)) {
				want = want && a[i] == b[i]
			}
			if key.Prefix(a, b) != want {
				t.Fatalf("%s of %s: not %v", brief(a...), brief(b...), want)
			}
		}
	}
}

// TestPrefixOfWrong has values that are not right, of which none is the same as another: one that stands behind the beginning is not asked.
func TestPrefixOfWrong(t *testing.T) { // P4.3
	for _, v := range wrong() {
		l := []api.Value{v}
		if key.Prefix(l, l) || key.Prefix(l, []api.Value{v, {}}) || key.Prefix(l, nil) || key.Prefix(l, []api.Value{{}}) || key.Prefix([]api.Value{{}}, l) {
			t.Errorf("%s: a prefix", brief(v))
		}
		if !key.Prefix(nil, l) || !key.Prefix([]api.Value{{}}, []api.Value{{}, v}) {
			t.Errorf("%s: no prefix ahead of it", brief(v))
		}
	}
	many := slices.Repeat([]api.Value{integer(5)}, 12)
	if !key.Prefix(many[:9], many) || !key.Prefix(many, many) || key.Prefix(many, many[:11]) {
		t.Error("of more than a key's values")
	}
	if !key.Prefix(nil, nil) || !key.Prefix([]api.Value{}, nil) {
		t.Error("of nothing")
	}
}

func TestLeavesArguments(t *testing.T) { // R4
	l := []api.Value{textOf("b\x00"), integer(1), {N: 1}, {}}
	kept := slices.Clone(l)
	for n := range 4 {
		key.Of(l[:n])
		key.Compare(l[:n], l)
		key.Prefix(l[:n], l)
	}
	if !slices.Equal(l, kept) {
		t.Error(brief(l...))
	}
}

func TestNewMemory(t *testing.T) { // R4
	room := bytes.Repeat([]byte("y"), 100)
	s := unsafe.String(&room[0], len(room))
	of, next := key.Of([]api.Value{textOf(s)}), key.Next(s)
	clear(room)
	if of != "\x06"+filled(100, "y")+"\x00\x01\x00" || next != filled(100, "y")+"\x00" {
		t.Error("an answer shares memory with an argument")
	}
}
