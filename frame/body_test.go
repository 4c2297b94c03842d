package frame_test

import (
	"encoding/binary"
	"fmt"
	"math"
	"slices"
	"strings"
	"testing"

	"memoir/api"
	"memoir/frame"
)

// show tells anything, little enough of it to be read.
func show(x any) string { return fmt.Sprintf("%.200q", fmt.Sprint(x)) }

func uints(l ...uint64) string {
	var b []byte
	for _, n := range l {
		b = binary.AppendUvarint(b, n)
	}
	return string(b)
}

func text(s string) string { return uints(uint64(len(s))) + s }

// plainRow writes values, right ones or not, as the document's words say.
func plainRow(l []api.Value) string {
	s := uints(uint64(len(l)))
	for _, v := range l {
		s += string([]byte{byte(v.Kind)})
		switch v.Kind {
		case api.Bool:
			s += string([]byte{byte(v.N)})
		case api.Int:
			s += string(binary.AppendVarint(nil, int64(v.N)))
		case api.Float:
			s += string(binary.BigEndian.AppendUint64(nil, v.Bits))
		case api.Bytes, api.Text:
			s += text(v.S)
		}
	}
	return s
}

func plainSchema(d api.Schema) string {
	s := text(d.Name) + uints(uint64(d.Keys), uint64(len(d.Cols)))
	for _, c := range d.Cols {
		need := uint64(0)
		if c.Need {
			need = 1
		}
		s += text(c.Name) + uints(uint64(c.Kind), need)
	}
	return s
}

func plainChange(c api.Change) string {
	if c.Op == api.OpTable {
		return uints(3) + text(plainSchema(c.Def))
	}
	return uints(uint64(c.Op)) + text(c.Table) + plainRow(c.Row) + uints(uint64(c.Valid.From), uint64(c.Valid.To))
}

// plain writes any transaction as if it were right.
func plain(x api.Txn) string {
	s := uints(uint64(x.Seq), uint64(x.Time), uint64(len(x.Changes)))
	for _, c := range x.Changes {
		s += plainChange(c)
	}
	return s
}

// written is transactions, and their bodies.
func written() []struct {
	x api.Txn
	b string
} {
	last := drop(textOf("\x00"))
	last.Table, last.Valid = "t_1", api.Span{From: api.MaxTime - 1, To: api.MaxTime}
	return []struct {
		x api.Txn
		b string
	}{
		{api.Txn{Seq: 1, Time: 5}, "\x01\x05\x00"},
		{api.Txn{Seq: 1, Time: 0, Changes: []api.Change{}}, "\x01\x00\x00"},
		{api.Txn{Seq: 128, Time: 127}, "\x80\x01\x7f\x00"},
		{api.Txn{Seq: 1 << 40, Time: 1<<40 - 1}, "\x80\x80\x80\x80\x80\x20\xff\xff\xff\xff\xff\x1f\x00"},
		{txn(define("t", "a")), "\xac\x02\x07\x01\x03\x08\x01t\x01\x01\x01a\x01\x01"},
		{txn(define("t", "a", "bc")), "\xac\x02\x07\x01\x03\x0d\x01t\x01\x02\x01a\x01\x01\x02bc\x02\x00"},
		{txn(put(integer(1))), "\xac\x02\x07\x01\x01\x01t\x01\x02\x02\x03\xc8\x01"},
		{txn(drop(integer(-1))), "\xac\x02\x07\x01\x02\x01t\x01\x02\x01\x03\xc8\x01"},
		{txn(put(api.Value{}, boolean(1), integer(-300), bits(0x3ff0<<48), bytesOf("xy"), textOf("at"))), "\xac\x02\x07\x01\x01\x01t\x06\x00\x01\x01\x02\xd7\x04\x03\x3f\xf0\x00\x00\x00\x00\x00\x00\x04\x02xy\x05\x02at\x03\xc8\x01"},
		{txn(last), "\xac\x02\x07\x01\x02\x03t_1\x01\x05\x01\x00\xff\xff\xff\xff\xff\x1f\x80\x80\x80\x80\x80\x20"},
		{txn(define("t", "a"), put(boolean(1)), drop(boolean(1))), "\xac\x02\x07\x03\x03\x08\x01t\x01\x01\x01a\x01\x01\x01\x01t\x01\x01\x01\x03\xc8\x01\x02\x01t\x01\x01\x01\x03\xc8\x01"},
	}
}

// many is further right transactions.
func many() []api.Txn {
	l := []api.Txn{txn(slices.Repeat(rowChanges(), 50)...)}
	for _, v := range rightValues() {
		l = append(l, txn(put(v)), txn(drop(v, textOf("z"), v)), txn(put(slices.Repeat([]api.Value{v}, 16)...)))
	}
	for _, s := range rightSpans() {
		c := put(integer(1), textOf("a"))
		c.Valid = s
		l = append(l, api.Txn{Seq: s.To, Time: s.From, Changes: []api.Change{c, define("u", "a", "b", "c")}})
	}
	for _, name := range []string{"_", "t_1", strings.Repeat("z", 32)} {
		c := drop(boolean(0))
		c.Table = name
		l = append(l, txn(define(name, name), c))
	}
	return l
}

func TestBody(t *testing.T) { // P6.2
	for _, c := range written() {
		if b := frame.Body(c.x); b != c.b {
			t.Errorf("%s: %q, not %q", show(c.x), b, c.b)
		}
		if plain(c.x) != c.b {
			t.Errorf("the test's own writer: %q, not %q", plain(c.x), c.b)
		}
	}
	for _, x := range many() {
		if b := frame.Body(x); b != plain(x) {
			t.Errorf("%s: %.200q", show(x), b)
		}
	}
}

// TestBodyNone has transactions that are not right in one thing alone; TestRight and checkChange see further ones.
func TestBodyNone(t *testing.T) { // P6.2
	for _, x := range []api.Txn{{}, {Time: 5}, {Seq: 1, Time: -1}, {Seq: 1, Time: api.MaxTime}, {Seq: 1<<40 + 1}, txn(put()), txn(api.Change{}), txn(make([]api.Change, 101)...)} {
		if b, s := frame.Body(x), frame.Encode(x); b != "" || s != "" {
			t.Errorf("%s: %q, %q", show(x), b, s)
		}
	}
}

// sized is a transaction whose body has n bytes, of n above 98660.
func sized(n int) api.Txn {
	l := slices.Repeat([]api.Change{put(textOf(strings.Repeat("y", api.MaxText)))}, 24)
	x := txn(append(l, put(textOf(strings.Repeat("z", 128))))...)
	x.Changes[24].Row[0].S = strings.Repeat("z", 128+n-len(plain(x)))
	return x
}

func TestBodySize(t *testing.T) { // P6.2
	for _, n := range []int{99999, 100000} {
		x := sized(n)
		if b := frame.Body(x); len(b) != n || b != plain(x) {
			t.Errorf("%d bytes: %d", n, len(b))
		}
		s := frame.Encode(x)
		if b, size, e := frame.Next(s); b != plain(x) || size != n+8 || e != api.OK {
			t.Errorf("%d bytes: the frame has %d, and %d, %d", n, len(s), size, e)
		}
		if y, e := frame.Decode(plain(x)); e != api.OK || !frame.Same(x, y) {
			t.Errorf("%d bytes: %d", n, e)
		}
	}
	large := txn(slices.Repeat([]api.Change{put(slices.Repeat([]api.Value{bytesOf(strings.Repeat("y", api.MaxText))}, 16)...)}, 100)...)
	for i, x := range []api.Txn{sized(100001), sized(100002), sized(102000), large} {
		if b, s := frame.Body(x), frame.Encode(x); !frame.Right(x) || b != "" || s != "" {
			t.Errorf("%d: %d bytes, a frame of %d", i, len(b), len(s))
		}
		checkOneBody(t, plain(x))
	}
}

func checkDecoded(t *testing.T, b string, want api.Txn) {
	t.Helper()
	if x, e := frame.Decode(b); e != api.OK || !frame.Same(x, want) {
		t.Errorf("%.200q: %s, %d", b, show(x), e)
	}
}

func checkNone(t *testing.T, b string) {
	t.Helper()
	if x, e := frame.Decode(b); e != api.ErrForm || x.Seq != 0 || x.Time != 0 || len(x.Changes) != 0 {
		t.Errorf("%.200q: %s, %d", b, show(x), e)
	}
}

func TestDecode(t *testing.T) { // P6.4, P6.6
	for _, c := range written() {
		checkDecoded(t, c.b, c.x)
	}
	for _, x := range many() {
		checkDecoded(t, frame.Body(x), x)
	}
}

func TestDecodeNone(t *testing.T) { // P6.4
	for _, b := range []string{"", "\x00", "\x01", "\x01\x05", "\x00\x05\x00", "\x01\x05\x01", "\x01\x05\x01\x04", "\x01\x05\x00\x00", "a", strings.Repeat("\x01", 100), strings.Repeat("\x80", 11), strings.Repeat("\xff", 100), strings.Repeat("\x00", 100000)} {
		checkNone(t, b)
	}
	for _, n := range []uint64{0, 1<<40 + 1, 1 << 41, math.MaxInt64, 1 << 63, 1<<63 + 1, math.MaxUint64} {
		checkNone(t, uints(n, 5, 0))
	}
	for _, n := range []uint64{1 << 40, 1<<40 + 1, math.MaxInt64, 1 << 63, 1<<63 + 5, math.MaxUint64} {
		checkNone(t, uints(1, n, 0))
	}
}

// spoiled is changes that may not be.
func spoiled() []api.Change {
	var l []api.Change
	over := strings.Repeat("a", api.MaxText+1)
	// Of the values that are not right those whose bytes tell it.
	for _, v := range []api.Value{{Kind: 6}, {Kind: 255}, boolean(2), boolean(255), bits(1 << 63), bits(0x7ff8<<48 + 1), bits(math.MaxUint64), bytesOf(over), textOf(over)} {
		l = append(l, put(v), drop(v), put(integer(1), v))
	}
	for _, s := range wrongSpans() {
		c := put(integer(1))
		c.Valid = s
		l = append(l, c)
	}
	for _, name := range wrongNames() {
		c := put(integer(1))
		c.Table = name
		l = append(l, c, define(name, "a"), define("t", name))
	}
	for _, n := range []int{0, 9, 16, 17, 255, 1000, 1001} {
		l = append(l, drop(slices.Repeat([]api.Value{integer(1)}, n)...))
		if n != 9 && n != 16 {
			l = append(l, put(slices.Repeat([]api.Value{integer(1)}, n)...))
		}
	}
	return append(l, define("t"), define("t", "a", "a"), define("t", strings.Split("a b c d e f g h i j k l m n o p q", " ")...))
}

func TestDecodeChanges(t *testing.T) { // P6.4
	for _, c := range spoiled() {
		checkNone(t, plain(txn(c)))
		checkNone(t, plain(txn(put(integer(1)), c)))
		checkNone(t, plain(txn(c, define("t", "a"))))
	}
	for _, n := range []uint64{0, 4, 5, 255, 257, 259, 1<<32 + 1, 1<<63 + 1, math.MaxUint64} {
		checkNone(t, uints(1, 5, 1, n)+plainChange(put(integer(1)))[1:])
		checkNone(t, uints(1, 5, 1, n)+plainChange(define("t", "a"))[1:])
	}
	checkNone(t, uints(1, 5, 1, 3)+plainChange(put(integer(1)))[1:])
	checkNone(t, uints(1, 5, 1, 1)+plainChange(define("t", "a"))[1:])
	checkNone(t, uints(1, 5, 1, 2)+plainChange(put(slices.Repeat([]api.Value{integer(1)}, 9)...))[1:])
	for _, b := range []string{"", "\x01", "\x01t\x01\x01\x01a\x02", "\x01t\x01\x01\x01a\x02\x02", "\x01t\x01\x01\x01a\x02\x01\x00", "\x01t\x01\x01\x01a\x82\x00\x01"} {
		checkNone(t, uints(1, 5, 1, 3)+text(b))
	}
}

func TestDecodeCount(t *testing.T) { // P6.4
	c := plainChange(put(integer(1)))
	for _, n := range []int{0, 1, 2, 99, 100, 101, 102, 300} {
		b := uints(1, 5, uint64(n)) + strings.Repeat(c, n)
		if x, e := frame.Decode(b); n <= 100 && (e != api.OK || len(x.Changes) != n) {
			t.Errorf("%d changes: %d, %d", n, len(x.Changes), e)
		}
		if n > 100 {
			checkNone(t, b)
		}
	}
	for _, count := range []uint64{0, 1, 99, 100, 101, 255, 256, 1 << 32, 1<<32 + 2, 1 << 63, 1<<63 + 2, math.MaxUint64} {
		for _, n := range []int{0, 2, 98, 100, 101} {
			if n != int(count) {
				checkNone(t, uints(1, 5, count)+strings.Repeat(c, n))
			}
		}
	}
}

// TestDecodeLong has numbers in more bytes than they need.
func TestDecodeLong(t *testing.T) { // P6.4
	checkDecoded(t, "\x01\x05\x01\x01\x01t\x01\x02\x02\x03\x08", api.Txn{Seq: 1, Time: 5, Changes: []api.Change{{Op: 1, Table: "t", Row: []api.Value{integer(1)}, Valid: api.Span{From: 3, To: 8}}}})
	for _, b := range []string{
		"\x81\x00\x05\x00", "\x01\x85\x00\x00", "\x01\x05\x80\x00",
		"\x01\x05\x01\x81\x00\x01t\x01\x02\x02\x03\x08", "\x01\x05\x01\x01\x81\x00t\x01\x02\x02\x03\x08", "\x01\x05\x01\x01\x01t\x81\x00\x02\x02\x03\x08",
		"\x01\x05\x01\x01\x01t\x01\x02\x82\x00\x03\x08", "\x01\x05\x01\x01\x01t\x01\x02\x02\x83\x00\x08", "\x01\x05\x01\x01\x01t\x01\x02\x02\x03\x88\x00",
		"\x01\x05\x01\x83\x00\x08\x01t\x01\x01\x01a\x01\x01", "\x01\x05\x01\x03\x88\x00\x01t\x01\x01\x01a\x01\x01", "\x01\x05\x01\x03\x09\x81\x00t\x01\x01\x01a\x01\x01",
	} {
		checkNone(t, b)
	}
}

// checkOneBody sees that what is read as a transaction is right, and has this body alone.
func checkOneBody(t *testing.T, b string) {
	t.Helper()
	x, e := frame.Decode(b)
	if e != api.OK {
		checkNone(t, b)
	} else if !frame.Right(x) || plain(x) != b {
		t.Errorf("%.200q: %s, whose body is %.200q", b, show(x), plain(x))
	}
}

// TestOneBody cuts bodies, lays other bytes behind them, and puts each byte in the place of each one, and between them.
func TestOneBody(t *testing.T) { // P6.4
	for _, c := range written() {
		for i := range len(c.b) {
			checkNone(t, c.b[:i])
			checkOneBody(t, c.b[i:])
			checkOneBody(t, c.b[:i]+c.b[i+1:])
			for n := range 256 {
				s := string([]byte{byte(n)})
				checkOneBody(t, c.b[:i]+s+c.b[i+1:])
				checkOneBody(t, c.b[:i]+s+c.b[i:])
			}
		}
		for _, more := range []string{"\x00", "\x01", "\xff", c.b} {
			checkNone(t, c.b+more)
		}
	}
}
