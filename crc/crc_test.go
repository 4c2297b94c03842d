package crc_test

import (
	"strings"
	"testing"
	"unsafe"

	"memoir/crc"
)

// bitByBit is the sum as the document's words make it, without an array.
func bitByBit(s string) uint32 {
	n := uint32(0xffffffff)
	for i := range len(s) {
		n ^= uint32(s[i])
		for range 8 {
			odd := n&1 == 1
			n >>= 1
			if odd {
				n ^= 0xedb88320
			}
		}
	}
	return ^n
}

// mixed is n bytes of all kinds, the same ones each time.
func mixed(n int) string {
	l := make([]byte, n)
	state := uint32(1)
	for i := range l {
		state = state*1664525 + 1013904223
		l[i] = byte(state >> 24)
	}
	return string(l)
}

func singles() []string {
	var l []string
	for n := range 256 {
		l = append(l, string([]byte{byte(n)}))
	}
	return l
}

// samples is bytes of many lengths, a sector's and the ones about it among them.
func samples() []string {
	l := singles()
	for _, n := range []int{0, 2, 3, 4, 5, 7, 8, 9, 122, 123, 124, 127, 128, 129, 255, 256, 257, 4096, 100000} {
		l = append(l, mixed(n), strings.Repeat("\x00", n), strings.Repeat("\xff", n))
	}
	return append(l, "\u00e9\u4e16", "\xed\xb8\x83\x20", "a\x00", "\x00a", "ab", "ba")
}

func TestOfKnown(t *testing.T) { // P3.1
	known := map[string]uint32{
		"": 0, "a": 0xe8b7be43, "abc": 0x352441c2, "123456789": 0xcbf43926,
		"The quick brown fox jumps over the lazy dog": 0x414fa339,
		"\x00":                     0xd202ef8d,
		"\x01":                     0xa505df1b,
		"\x80":                     0x3fba6cad,
		"\xff":                     0xff000000,
		"\x00\x00\x00\x00":         0x2144df1c,
		"\xff\xff\xff\xff":         0xffffffff,
		strings.Repeat("\x00", 32): 0x190a55ad,
		strings.Repeat("\xff", 32): 0xff6cab0b,
	}
	for s, want := range known {
		if n := crc.Of(s); n != want {
			t.Errorf("%q: %#x, not %#x", s, n, want)
		}
	}
}

func TestOfSteps(t *testing.T) { // P3.1
	for _, s := range samples() {
		if n, want := crc.Of(s), bitByBit(s); n != want {
			t.Errorf("%.40q, %d bytes: %#x, not %#x", s, len(s), n, want)
		}
	}
}

func TestMoreOfParts(t *testing.T) { // P3.1, P3.3
	whole := mixed(300)
	want := bitByBit(whole)
	for i := range len(whole) + 1 {
		if n := crc.More(crc.Of(whole[:i]), whole[i:]); n != want {
			t.Errorf("cut at %d: %#x, not %#x", i, n, want)
		}
	}
	for _, size := range []int{1, 2, 7, 100, 128} {
		sum := crc.Of("")
		for rest := whole; rest != ""; {
			n := min(size, len(rest))
			sum = crc.More(sum, rest[:n])
			rest = rest[n:]
		}
		if sum != want {
			t.Errorf("parts of %d: %#x, not %#x", size, sum, want)
		}
	}
}

func TestMoreOfNothing(t *testing.T) { // P3.1
	for _, sum := range []uint32{0, 1, 0x7fffffff, 0x80000000, 0xcbf43926, 0xffffffff} {
		if n := crc.More(sum, ""); n != sum {
			t.Errorf("%#x: %#x", sum, n)
		}
	}
	for _, s := range samples() {
		if crc.More(0, s) != crc.Of(s) {
			t.Errorf("%.40q: More of nothing's sum is not Of", s)
		}
	}
}

// TestMoreOfEdgeSums has first parts whose sums are at the edges: 0 of bytes that are not empty, all bits.
func TestMoreOfEdgeSums(t *testing.T) { // P3.1
	for ahead, sum := range map[string]uint32{"\x9d\x0a\xd9\x6d": 0, "\xff\xff\xff\xff": 0xffffffff, "\x00\x00\x00\x00": 0x2144df1c} {
		for _, s := range samples() {
			if n, want := crc.More(sum, s), bitByBit(ahead+s); n != want {
				t.Errorf("%q, %.40q: %#x, not %#x", ahead, s, n, want)
			}
		}
	}
}

func TestPut(t *testing.T) { // P3.2
	for s, want := range map[string]string{"": "\x00\x00\x00\x00", "a": "a\x43\xbe\xb7\xe8", "123456789": "123456789\x26\x39\xf4\xcb", "\xff": "\xff\x00\x00\x00\xff"} {
		if got := crc.Put(s); got != want {
			t.Errorf("%q: %q, not %q", s, got, want)
		}
	}
	for _, s := range samples() {
		n := bitByBit(s)
		if got := crc.Put(s); got != s+string([]byte{byte(n), byte(n >> 8), byte(n >> 16), byte(n >> 24)}) {
			t.Errorf("%.40q: %.40q, %d bytes", s, got, len(got))
		}
	}
}

func TestTake(t *testing.T) { // P3.2
	for _, s := range samples() {
		if got, ok := crc.Take(crc.Put(s)); got != s || !ok {
			t.Errorf("%.40q: %.40q %v", s, got, ok)
		}
		twice := crc.Put(crc.Put(s))
		if got, ok := crc.Take(twice); got != crc.Put(s) || !ok {
			t.Errorf("%.40q, put twice: %.40q %v", s, got, ok)
		}
	}
}

func checkRefused(t *testing.T, s string) {
	t.Helper()
	if got, ok := crc.Take(s); got != "" || ok {
		t.Errorf("%.40q: %.40q %v", s, got, ok)
	}
}

func TestTakeRefuses(t *testing.T) { // P3.2
	for n := range 4 { // shorter than a sum
		checkRefused(t, strings.Repeat("\x00", n))
		checkRefused(t, mixed(n))
	}
	wrong := []string{
		"\x00\x00\x00\x01", "\x01\x00\x00\x00", "\xff\xff\xff\xff", "abcd", // of nothing
		"a\xe8\xb7\xbe\x43",                    // the highest first
		"\x43\xbe\xb7\xe8a",                    // ahead of them
		"a\xbc\x41\x48\x17",                    // not turned
		"a\x43\xbe\xb7", "a\x43\xbe\xb7\xe8\n", // one less, one more
		"b\x43\xbe\xb7\xe8", "\x43\xbe\xb7\xe8", "aa\x43\xbe\xb7\xe8", // another's
		strings.Repeat("\x00", 5), strings.Repeat("\x00", 128), strings.Repeat("\xff", 128),
	}
	for _, s := range wrong {
		checkRefused(t, s)
	}
}

func TestTakeOfPieces(t *testing.T) { // P3.2
	put := crc.Put(mixed(128))
	for n := range len(put) {
		checkRefused(t, put[:n])
		if n > 0 {
			checkRefused(t, put[n:])
		}
	}
}

func TestOtherByteIsTold(t *testing.T) { // P3.3
	for _, s := range []string{"", "a", "123456789", strings.Repeat("\x00", 20), strings.Repeat("\xff", 20), mixed(124)} {
		put := crc.Put(s)
		for i := range len(put) {
			for other := range 255 {
				l := []byte(put)
				l[i] += byte(other + 1)
				checkRefused(t, string(l))
				if i < len(s) && crc.Of(string(l[:len(s)])) == crc.Of(s) {
					t.Errorf("%.40q: byte %d as %d has the same sum", s, i, l[i])
				}
			}
		}
	}
}

func TestAgainTheSame(t *testing.T) { // R5
	a, b := crc.Of("a"), crc.Of("b")
	for range 3 {
		crc.More(a, mixed(50))
		if crc.Of("b") != b || crc.Of("a") != a {
			t.Fatal("a sum hangs on earlier calls")
		}
	}
}

func TestNewMemory(t *testing.T) { // R4
	inside := func(part, whole string) bool {
		at, from := uintptr(unsafe.Pointer(unsafe.StringData(part))), uintptr(unsafe.Pointer(unsafe.StringData(whole)))
		return at >= from && at < from+uintptr(len(whole))
	}
	s := mixed(64)
	put := crc.Put(s)
	taken, _ := crc.Take(put)
	if inside(put, s) || inside(taken, put) {
		t.Error("an answer shares memory with an argument")
	}
}
