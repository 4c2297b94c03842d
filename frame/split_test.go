package frame_test

import (
	"encoding/binary"
	"hash/crc32"
	"slices"
	"strings"
	"testing"
	"unsafe"

	"memoir/api"
	"memoir/frame"
)

// frameOf is a frame of any body, be it too long.
func frameOf(body string) string {
	s := binary.BigEndian.AppendUint32(nil, uint32(len(body)))
	s = append(s, body...)
	return string(binary.LittleEndian.AppendUint32(s, crc32.ChecksumIEEE([]byte(body))))
}

// bodies is bodies that frames can have, few of them a transaction's.
func bodies() []string {
	return []string{"\x01\x05\x00", "", "\x00", "a", "\xff\xff\xff\xff", strings.Repeat("\x00", 255), strings.Repeat("b", 256), strings.Repeat("c", 65536), strings.Repeat("d", 99999), strings.Repeat("e", 100000)}
}

func TestEncode(t *testing.T) { // P6.2
	if s := frame.Encode(api.Txn{Seq: 1, Time: 5}); s != "\x00\x00\x00\x03\x01\x05\x00"+frameOf("\x01\x05\x00")[7:] {
		t.Errorf("%q", s)
	}
	for _, c := range written() {
		if s := frame.Encode(c.x); s != frameOf(c.b) {
			t.Errorf("%s: %q", show(c.x), s)
		}
	}
	for _, x := range many() {
		if s := frame.Encode(x); s != frameOf(plain(x)) {
			t.Errorf("%.80q", s)
		}
	}
}

func checkNext(t *testing.T, s, body string, n int, e api.Errno) {
	t.Helper()
	if b, m, f := frame.Next(s); b != body || m != n || f != e {
		t.Errorf("%.60q of %d bytes: %.60q, %d, %d, not %d, %d", s, len(s), b, m, f, n, e)
	}
}

func TestNext(t *testing.T) { // P6.3
	for _, b := range bodies() {
		s := frameOf(b)
		for _, more := range []string{"", "\x00", "\x00\x00\x00\x00\x00\x00\x00\x00", "\xff\xff\xff\xff", s} {
			checkNext(t, s+more, b, len(b)+8, api.OK)
		}
	}
	checkNext(t, strings.Repeat("\x00", 8), "", 8, api.OK)
}

func TestNextShort(t *testing.T) { // P6.3
	for _, s := range []string{"", "\x00", "\x00\x00\x00", "\xff", "\xff\xff\xff", "\x00\x01\x86"} {
		checkNext(t, s, "", 0, api.ErrShort)
	}
	for _, b := range bodies() {
		s := frameOf(b)
		for _, n := range []int{0, 1, 2, 3, 4, 5, 6, 7, len(b), len(b) + 4, len(b) + 5, len(b) + 6, len(b) + 7} {
			if n < len(s) {
				checkNext(t, s[:n], "", 0, api.ErrShort)
			}
		}
	}
	for n := range 9 { // too short, and the sum wrong as well
		checkNext(t, "\x00\x00\x00\x01aaaaa"[:n], "", 0, api.ErrShort)
	}
}

func TestNextBig(t *testing.T) { // P6.3
	for _, l := range []string{"\x00\x01\x86\xa1", "\x00\x01\x87\x00", "\x00\x02\x00\x00", "\x01\x00\x00\x00", "\x01\x00\x00\x03", "\x7f\xff\xff\xff", "\x80\x00\x00\x00", "\x80\x00\x00\x01", "\xff\xff\xff\xf8", "\xff\xff\xff\xff"} {
		for _, more := range []string{"", "\x00", "\x00\x00\x00\x00", "\x01\x05\x00", strings.Repeat("a", 200000)} {
			checkNext(t, l+more, "", 0, api.ErrBig)
		}
	}
	for _, n := range []int{100001, 131072, 200000} { // the sum right
		checkNext(t, frameOf(strings.Repeat("f", n)), "", 0, api.ErrBig)
	}
	checkNext(t, "\x00\x01\x86\xa0", "", 0, api.ErrShort)
	checkNext(t, "\x00\x01\x86\xa0"+strings.Repeat("a", 100003), "", 0, api.ErrShort)
	checkNext(t, "\x00\x01\x86\xa0"+strings.Repeat("a", 100004), "", 0, api.ErrCrc)
}

func TestNextCrc(t *testing.T) { // P6.3
	for _, b := range bodies() {
		s := []byte(frameOf(b))
		for _, i := range []int{4, 5, len(b) / 2, len(b) + 3, len(b) + 4, len(b) + 5, len(b) + 6, len(b) + 7} {
			if i < 4 {
				continue
			}
			s[i] ^= 64
			checkNext(t, string(s), "", 0, api.ErrCrc)
			checkNext(t, string(s)+frameOf(b), "", 0, api.ErrCrc)
			s[i] ^= 64
		}
		slices.Reverse(s[len(b)+4:]) // the sum's highest byte first
		if string(s) != frameOf(b) {
			checkNext(t, string(s), "", 0, api.ErrCrc)
		}
	}
	checkNext(t, "\x00\x00\x00\x00\x00\x00\x00\x01", "", 0, api.ErrCrc)
}

// TestOtherByte puts each other byte in the place of each one of frames.
func TestOtherByte(t *testing.T) { // P6.6
	for _, c := range written() {
		s := []byte(frame.Encode(c.x))
		for i, was := range s {
			for n := range 256 {
				if byte(n) == was {
					continue
				}
				s[i] = byte(n)
				if b, m, e := frame.Next(string(s)); e == api.OK && m == len(s) {
					t.Errorf("%s: byte %d is %d: %q", show(c.x), i, n, b)
				}
			}
			s[i] = was
		}
	}
}

func checkSplit(t *testing.T, s string, bodies []string, n int, e api.Errno) {
	t.Helper()
	if l, m, f := frame.Split(s); !slices.Equal(l, bodies) || m != n || f != e {
		t.Errorf("%.60q of %d bytes: %d bodies, %d, %d, not %d, %d, %d", s, len(s), len(l), m, f, len(bodies), n, e)
	}
}

func TestSplit(t *testing.T) { // P6.5
	checkSplit(t, "", nil, 0, api.OK)
	bad := []struct {
		s string
		e api.Errno
	}{
		{"\x00", api.ErrShort}, {"\x00\x00\x00", api.ErrShort}, {"\x00\x00\x00\x00\x00\x00\x00", api.ErrShort}, {"\x00\x01\x86\xa0", api.ErrShort},
		{"\x00\x01\x86\xa1", api.ErrBig}, {"\xff\xff\xff\xff", api.ErrBig}, {"\xff\xff\xff\xff" + strings.Repeat("\x00", 8), api.ErrBig},
		{"\x00\x00\x00\x00\x00\x00\x00\x01", api.ErrCrc}, {"\x00\x00\x00\x01aaaaa" + frameOf("a"), api.ErrCrc},
	}
	all, s := bodies(), ""
	for i := range len(all) + 1 {
		checkSplit(t, s, all[:i], len(s), api.OK)
		for _, c := range bad {
			checkSplit(t, s+c.s, all[:i], len(s), c.e)
		}
		if i < len(all) {
			s += frameOf(all[i])
		}
	}
	checkSplit(t, strings.Repeat("\x00", 8000), make([]string, 1000), 8000, api.OK)
	checkSplit(t, strings.Repeat("\x00", 8003), make([]string, 1000), 8000, api.ErrShort)
	checkSplit(t, strings.Repeat(frameOf("ab"), 20000), slices.Repeat([]string{"ab"}, 20000), 200000, api.OK)
}

// TestSplitParts cuts frames anywhere: those that are whole are told, and what is left goes on behind them.
func TestSplitParts(t *testing.T) { // P6.5
	var all, ends = []string{}, []int{0}
	s := ""
	for _, c := range written() {
		all, s = append(all, c.b), s+frameOf(c.b)
		ends = append(ends, len(s))
	}
	whole := 0
	for i := range len(s) + 1 {
		e := api.ErrShort
		if whole+1 < len(ends) && i == ends[whole+1] {
			whole++
		}
		if i == ends[whole] {
			e = api.OK
		}
		checkSplit(t, s[:i], all[:whole], ends[whole], e)
		checkSplit(t, s[ends[whole]:], all[whole:], len(s)-ends[whole], api.OK)
	}
}

func TestReadAsItWas(t *testing.T) { // P6.6
	var all []api.Txn
	s := ""
	for _, c := range written() {
		all = append(all, c.x)
	}
	all = append(all, many()...)
	all = append(all, sized(100000))
	for _, x := range all {
		s += frame.Encode(x)
	}
	l, n, e := frame.Split(s)
	if len(l) != len(all) || n != len(s) || e != api.OK {
		t.Fatal(len(l), n, e)
	}
	for i, b := range l {
		checkDecoded(t, b, all[i])
	}
}

func TestLeavesArguments(t *testing.T) { // R4
	x := txn(append(rowChanges(), define("t", "a", "b"), put())...)
	for i := range x.Changes {
		x.Changes[i].Row = append(x.Changes[i].Row, integer(8), integer(9))
		x.Changes[i].Def.Cols = append(x.Changes[i].Def.Cols, api.Column{Name: "more"}, api.Column{Name: "still"})
	}
	kept := x
	kept.Changes = deepCopy(x.Changes)
	for n := range x.Changes {
		part := txn(slices.Clone(x.Changes[:n])...)
		for i := range part.Changes {
			c := &part.Changes[i]
			c.Row, c.Def.Cols = c.Row[:len(c.Row)-2], c.Def.Cols[:len(c.Def.Cols)-2]
			frame.Change(*c)
		}
		if !frame.Right(part) || frame.Body(part) == "" || frame.Encode(part) == "" || !frame.Same(part, part) {
			t.Error(n)
		}
		frame.Body(api.Txn{Seq: 1, Changes: x.Changes[:n]})
	}
	if !frame.Same(x, kept) {
		t.Error(show(x))
	}
}

// scribble writes over a list, and the spare room behind it.
func scribble[T any](l []T, with T) {
	l = l[:cap(l)]
	for i := range l {
		l[i] = with
	}
}

func TestNewMemory(t *testing.T) { // R4
	x := txn(define("t", "a", "b"), put(textOf("at"), bytesOf("by")), drop(textOf("of")))
	room := []byte(plain(x))
	b := unsafe.String(&room[0], len(room))
	first, _ := frame.Decode(b)
	second, _ := frame.Decode(b)
	clear(room)
	if !frame.Same(first, x) || !frame.Same(second, x) {
		t.Error(show(first), show(second))
	}
	scribble(first.Changes[1].Row, integer(1))
	scribble(first.Changes[0].Def.Cols, api.Column{})
	if !frame.Same(second, x) || !frame.Same(txn(first.Changes[2]), txn(x.Changes[2])) {
		t.Error(show(first), show(second))
	}
	scribble(first.Changes, api.Change{})
	if !frame.Same(second, x) {
		t.Error(show(second))
	}
}

func TestNewBytes(t *testing.T) { // R4
	room := []byte(frameOf("abc") + frameOf("defg"))
	s := unsafe.String(&room[0], len(room))
	next, _, _ := frame.Next(s)
	first, _, _ := frame.Split(s)
	second, _, _ := frame.Split(s)
	clear(room)
	scribble(first, "z")
	if next != "abc" || !slices.Equal(second, []string{"abc", "defg"}) {
		t.Errorf("%q %q", next, second)
	}
	letters := []byte("at")
	x := txn(put(textOf(unsafe.String(&letters[0], len(letters)))))
	want := plain(x)
	body, whole := frame.Body(x), frame.Encode(x)
	clear(letters)
	if body != want || whole != frameOf(want) {
		t.Errorf("%q %q", body, whole)
	}
}
