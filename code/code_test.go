package code_test

import (
	"math"
	"slices"
	"strings"
	"testing"

	"memoir/api"
	"memoir/code"
	"memoir/value"
)

const (
	ten   = "\xff\xff\xff\xff\xff\xff\xff\xff\xff\x01"
	nines = "\x80\x80\x80\x80\x80\x80\x80\x80\x80"
)

func integer(n int) api.Value    { return api.Value{Kind: api.Int, N: n} }
func bits(n uint64) api.Value    { return api.Value{Kind: api.Float, Bits: n} }
func bytesOf(s string) api.Value { return api.Value{Kind: api.Bytes, S: s} }
func textOf(s string) api.Value  { return api.Value{Kind: api.Text, S: s} }
func filled(n int) string        { return strings.Repeat("y", n) }

type pair[T any] struct {
	thing T
	bytes string
}

func numbers() []pair[uint64] {
	return []pair[uint64]{
		{0, "\x00"}, {1, "\x01"}, {127, "\x7f"},
		{128, "\x80\x01"}, {129, "\x81\x01"}, {255, "\xff\x01"}, {256, "\x80\x02"}, {300, "\xac\x02"}, {1<<14 - 1, "\xff\x7f"},
		{1 << 14, "\x80\x80\x01"}, {1<<21 - 1, "\xff\xff\x7f"}, {1 << 21, "\x80\x80\x80\x01"},
		{1 << 32, "\x80\x80\x80\x80\x10"}, {1<<56 - 1, "\xff\xff\xff\xff\xff\xff\xff\x7f"},
		{1<<63 - 1, "\xff\xff\xff\xff\xff\xff\xff\xff\x7f"}, {1 << 63, nines + "\x01"}, {math.MaxUint64, ten},
	}
}

func integers() []pair[int] {
	return []pair[int]{
		{0, "\x00"}, {-1, "\x01"}, {1, "\x02"}, {-2, "\x03"}, {2, "\x04"}, {63, "\x7e"}, {-64, "\x7f"}, {64, "\x80\x01"}, {-65, "\x81\x01"},
		{1 << 62, nines + "\x01"}, {-1<<62 - 1, "\x81" + nines[1:] + "\x01"},
		{math.MaxInt - 1, "\xfc" + ten[1:]}, {math.MinInt + 1, "\xfd" + ten[1:]}, {math.MaxInt, "\xfe" + ten[1:]}, {math.MinInt, ten},
	}
}

func texts() []pair[string] {
	return []pair[string]{
		{"", "\x00"}, {"a", "\x01a"}, {"abc", "\x03abc"}, {"\x00\xff\x80", "\x03\x00\xff\x80"}, {"\u00e9", "\x02\xc3\xa9"},
		{filled(127), "\x7f" + filled(127)}, {filled(128), "\x80\x01" + filled(128)},
		{filled(api.MaxText + 1), "\x81\x20" + filled(api.MaxText+1)}, {filled(1000000), "\xc0\x84\x3d" + filled(1000000)},
	}
}

func values() []pair[api.Value] {
	return []pair[api.Value]{
		{api.Value{}, "\x00"},
		{api.Value{Kind: api.Bool}, "\x01\x00"}, {api.Value{Kind: api.Bool, N: 1}, "\x01\x01"},
		{integer(0), "\x02\x00"}, {integer(-1), "\x02\x01"}, {integer(150), "\x02\xac\x02"}, {integer(math.MinInt), "\x02" + ten},
		{bits(0), "\x03\x00\x00\x00\x00\x00\x00\x00\x00"}, {bits(1), "\x03\x00\x00\x00\x00\x00\x00\x00\x01"},
		{bits(0x0123456789abcdef), "\x03\x01\x23\x45\x67\x89\xab\xcd\xef"},
		{value.OfFloat(-1), "\x03\xbf\xf0\x00\x00\x00\x00\x00\x00"},
		{bits(1<<63 + 1), "\x03\x80\x00\x00\x00\x00\x00\x00\x01"},
		{value.OfFloat(math.NaN()), "\x03\x7f\xf8\x00\x00\x00\x00\x00\x00"}, {value.OfFloat(math.Inf(-1)), "\x03\xff\xf0\x00\x00\x00\x00\x00\x00"},
		{bytesOf(""), "\x04\x00"}, {bytesOf("\x00\xff"), "\x04\x02\x00\xff"},
		{textOf(""), "\x05\x00"}, {textOf("ab"), "\x05\x02ab"}, {textOf(filled(200)), "\x05\xc8\x01" + filled(200)},
		{bytesOf(filled(api.MaxText)), "\x04\x80\x20" + filled(api.MaxText)}, {textOf(filled(api.MaxText)), "\x05\x80\x20" + filled(api.MaxText)},
	}
}

func rows() []pair[[]api.Value] {
	all := pair[[]api.Value]{nil, "\x15"}
	for _, v := range values() {
		all.thing = append(all.thing, v.thing)
		all.bytes += v.bytes
	}
	return []pair[[]api.Value]{
		{nil, "\x00"}, {[]api.Value{}, "\x00"}, {[]api.Value{{}}, "\x01\x00"},
		{[]api.Value{integer(-4), {}, textOf("z")}, "\x03\x02\x07\x00\x05\x01z"},
		{make([]api.Value, 128), "\x80\x01" + strings.Repeat("\x00", 128)}, {make([]api.Value, 1000), "\xe8\x07" + strings.Repeat("\x00", 1000)},
		all,
	}
}

// wrong is values that are not right.
func wrong() []api.Value {
	return []api.Value{
		{Kind: -1}, {Kind: 6}, {Kind: 256}, {Kind: 258, N: 1}, {N: 1}, {Bits: 1}, {S: "a"},
		{Kind: api.Bool, N: 2}, {Kind: api.Bool, N: -1}, {Kind: api.Bool, N: 256}, {Kind: api.Bool, N: 1, S: "a"},
		{Kind: api.Int, N: 1, Bits: 1}, {Kind: api.Int, S: "1"},
		bits(1 << 63), bits(0x7ff8<<48 + 1), bits(0xfff8 << 48), {Kind: api.Float, N: 1},
		{Kind: api.Bytes, S: "a", N: 1}, bytesOf(filled(api.MaxText + 1)), {Kind: api.Text, S: "a", Bits: 1}, textOf(filled(api.MaxText + 1)),
	}
}

func checkWritten[T any](t *testing.T, write func(T) string, l []pair[T]) {
	t.Helper()
	for _, p := range l {
		if s := write(p.thing); s != p.bytes {
			t.Errorf("%.40v: written as %.40q, not %.40q", p.thing, s, p.bytes)
		}
	}
}

func TestWrite(t *testing.T) { // P2.1
	checkWritten(t, code.Uint, numbers())
	checkWritten(t, code.Int, integers())
	checkWritten(t, code.Text, texts())
	checkWritten(t, code.Value, values())
	checkWritten(t, code.Row, rows())
}

func TestWriteWrong(t *testing.T) { // P2.1
	for _, v := range wrong() {
		for _, l := range [][]api.Value{{v}, {v, {}}, {{}, integer(3), v}, {v, v}} {
			if s := code.Row(l); s != "" {
				t.Errorf("%.40v: written as %.40q", l, s)
			}
		}
		if s := code.Value(v); s != "" {
			t.Errorf("%.40v: written as %.40q", v, s)
		}
	}
}

// TestWriteBeyond writes what no reader takes: writing has no limit but a value's own.
func TestWriteBeyond(t *testing.T) { // P2.1, P2.2
	long, wide := code.Text(filled(1000001)), code.Row(make([]api.Value, 1001))
	if long != "\xc1\x84\x3d"+filled(1000001) || wide != "\xe9\x07"+strings.Repeat("\x00", 1001) {
		t.Errorf("%.20q %.20q", long, wide)
	}
	r := code.New(long)
	if r.Text() != "" || r.Err() != api.ErrBig || r.Left() != len(long) {
		t.Error(r.Err(), r.Left())
	}
	r = code.New(wide)
	if r.Row() != nil || r.Err() != api.ErrBig || r.Left() != len(wide) {
		t.Error(r.Err(), r.Left())
	}
}

func TestWriteLeavesRow(t *testing.T) { // R4
	l := []api.Value{integer(1), textOf("a"), {N: 1}}
	kept := slices.Clone(l)
	code.Row(l[:2])
	if code.Row(l); !slices.Equal(l, kept) {
		t.Error(l)
	}
}
