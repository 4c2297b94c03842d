package schema_test

import (
	"math"
	"strings"
	"testing"
	"unsafe"

	"memoir/api"
	"memoir/code"
	"memoir/schema"
)

// written is schemas, and their bytes.
func written() []struct {
	s api.Schema
	b string
} {
	long := strings.Repeat("z", 32)
	manyBytes := "\x01w\x08\x10"
	for i := range 16 {
		manyBytes += "\x02c" + string(rune('a'+i)) + "\x02\x01"
	}
	return []struct {
		s api.Schema
		b string
	}{
		{single("t", "a"), "\x01t\x01\x01\x01a\x05\x01"},
		{single(long, long), " " + long + "\x01\x01 " + long + "\x05\x01"},
		{api.Schema{Name: "t", Cols: []api.Column{column("a", 2, true), column("b", 5, false)}, Keys: 1}, "\x01t\x01\x02\x01a\x02\x01\x01b\x05\x00"},
		{api.Schema{Name: "t", Cols: []api.Column{column("a", 2, true), column("b", 5, true)}, Keys: 1}, "\x01t\x01\x02\x01a\x02\x01\x01b\x05\x01"},
		{api.Schema{Name: "t", Cols: []api.Column{column("a", 2, true), column("b", 5, true)}, Keys: 2}, "\x01t\x02\x02\x01a\x02\x01\x01b\x05\x01"},
		{table(), "\x03t_1\x03\x05\x01a\x02\x01\x01b\x05\x01\x01c\x01\x01\x01d\x03\x00\x01e\x04\x01"},
		{wide(16, 8), manyBytes},
	}
}

func TestEncode(t *testing.T) { // P5.5
	for _, c := range written() {
		if b := schema.Encode(c.s); b != c.b {
			t.Errorf("%v: %q, not %q", c.s, b, c.b)
		}
	}
	for _, s := range wrong() {
		if b := schema.Encode(s); b != "" {
			t.Errorf("%v: %q", s, b)
		}
	}
}

func TestDecode(t *testing.T) { // P5.5
	for _, c := range written() {
		if s, e := schema.Decode(c.b); e != api.OK || !schema.Same(s, c.s) {
			t.Errorf("%q: %v, %d", c.b, s, e)
		}
	}
	for _, s := range small() {
		if got, e := schema.Decode(schema.Encode(s)); e != api.OK || !schema.Same(got, s) {
			t.Errorf("%v: %v, %d", s, got, e)
		}
	}
}

func checkNone(t *testing.T, b string) {
	t.Helper()
	if s, e := schema.Decode(b); e != api.ErrForm || s.Name != "" || len(s.Cols) != 0 || s.Keys != 0 {
		t.Errorf("%.60q: %v, %d", b, s, e)
	}
}

// plain writes any schema as if it were right, its numbers as they are handed in.
func plain(name string, keys, count uint64, cols ...string) string {
	return code.Text(name) + code.Uint(keys) + code.Uint(count) + strings.Join(cols, "")
}

func plainColumn(name string, kind, need uint64) string {
	return code.Text(name) + code.Uint(kind) + code.Uint(need)
}

func TestDecodeNone(t *testing.T) { // P5.5
	a, b := plainColumn("a", 2, 1), plainColumn("b", 5, 0)
	if _, e := schema.Decode(plain("t", 1, 2, a, b)); e != api.OK {
		t.Fatal(e)
	}
	for _, n := range []uint64{0, 2, 3, 255, 256, 257, 1 << 32, 1<<32 + 1, 1 << 63, 1<<63 + 1, math.MaxUint64} {
		checkNone(t, plain("t", n, 2, a, b)) // two Keys, of which one does not Need, too
		checkNone(t, plain("t", 1, 1, plainColumn("a", 2, n)))
		if n != 2 {
			checkNone(t, plain("t", 1, n, a, b))
		}
		if n < 2 || n > 5 {
			checkNone(t, plain("t", 1, 1, plainColumn("a", n, 1)))
		}
	}
	checkNone(t, plain("t", 1, 2, a, a))
	checkNone(t, plain("t", 1, 1, b))
	checkNone(t, plain("t", 1, 2, b, a))
	checkNone(t, plain("t", 1, 1, plainColumn("a", 6, 1)))
	for _, s := range noNames() {
		checkNone(t, plain(s, 1, 1, a))
		checkNone(t, plain("t", 1, 2, a, plainColumn(s, 1, 0)))
	}
	for _, s := range []string{"", "\x00", "\x01", "\x01t", "\x01t\x01", "a", "\xff\xff\xff\xff\xff\xff\xff\xff\xff\x01", strings.Repeat("\x80", 11), strings.Repeat("\x00", 100), strings.Repeat("\x01", 100000)} {
		checkNone(t, s)
	}
}

func TestDecodeMany(t *testing.T) { // P5.5
	var cols []string
	for i := range 300 {
		cols = append(cols, plainColumn("c"+strings.Repeat("_", i/26)+string(rune('a'+i%26)), 1, 1))
		b := plain("t", 1, uint64(i+1), cols...)
		if s, e := schema.Decode(b); i < 16 && (e != api.OK || len(s.Cols) != i+1) {
			t.Errorf("%d columns: %v, %d", i+1, s, e)
		}
		if i >= 16 {
			checkNone(t, b)
			checkNone(t, plain("t", 1, uint64(i+1), cols[:16]...))
			checkNone(t, plain("t", 1, 16, cols[:i+1]...))
		}
	}
}

// TestDecodeLong has numbers in more bytes than they need.
func TestDecodeLong(t *testing.T) { // P5.5
	for _, b := range []string{
		"\x81\x00t\x01\x01\x01a\x05\x01", "\x01t\x81\x00\x01\x01a\x05\x01", "\x01t\x01\x81\x00\x01a\x05\x01",
		"\x01t\x01\x01\x81\x00a\x05\x01", "\x01t\x01\x01\x01a\x85\x00\x01", "\x01t\x01\x01\x01a\x05\x81\x00",
	} {
		checkNone(t, b)
	}
}

// checkOneRow sees that what is read as a schema is right, and has these bytes alone.
func checkOneRow(t *testing.T, b string) {
	t.Helper()
	s, e := schema.Decode(b)
	if e != api.OK {
		checkNone(t, b)
	} else if !schema.Right(s) || schema.Encode(s) != b {
		t.Errorf("%q: %v, whose bytes are %q", b, s, schema.Encode(s))
	}
}

// TestOneRow cuts bytes, lays others behind them, and puts each byte in the place of each one, and between them.
func TestOneRow(t *testing.T) { // P5.5
	for _, c := range written()[2:6] {
		for i := range len(c.b) {
			checkNone(t, c.b[:i])
			checkOneRow(t, c.b[i:])
			checkOneRow(t, c.b[:i]+c.b[i+1:])
			for n := range 256 {
				s := string([]byte{byte(n)})
				checkOneRow(t, c.b[:i]+s+c.b[i+1:])
				checkOneRow(t, c.b[:i]+s+c.b[i:])
			}
		}
		for _, more := range []string{"\x00", "\x01", "\xff", c.b} {
			checkNone(t, c.b+more)
		}
	}
}

func TestSchemasAreNew(t *testing.T) { // R4
	room := []byte(schema.Encode(table()))
	b := unsafe.String(&room[0], len(room))
	first, _ := schema.Decode(b)
	second, _ := schema.Decode(b)
	clear(room)
	if !schema.Same(first, table()) || !schema.Same(second, table()) {
		t.Error(first, second)
	}
	scribble(first.Cols, api.Column{})
	if !schema.Same(second, table()) {
		t.Error(second)
	}
	name := []byte("table")
	s := single(unsafe.String(&name[0], len(name)), unsafe.String(&name[1], 4))
	text := schema.Encode(s)
	clear(name)
	if text != "\x05table\x01\x01\x04able\x05\x01" {
		t.Errorf("%q", text)
	}
}
