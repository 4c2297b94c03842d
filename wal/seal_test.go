package wal_test

import (
	"strings"
	"testing"
	"unsafe"

	"memoir/crc"
	"memoir/wal"
)

// mixed is n bytes of all kinds, the same ones each time.
func mixed(n int) string {
	l := make([]byte, n)
	c := chance(n)
	for i := range l {
		l[i] = byte(c.below(256))
	}
	return string(l)
}

// sealed is a body's Seal, as the tests themselves write it, also of one that is too long.
func sealed(body string) string {
	n := crc.Of(body)
	return string([]byte{byte(len(body))}) + body + string([]byte{byte(n), byte(n >> 8), byte(n >> 16), byte(n >> 24)})
}

func TestSealKnown(t *testing.T) { // P8.1
	for body, want := range map[string]string{
		"":          "\x00\x00\x00\x00\x00",
		"a":         "\x01a\x43\xbe\xb7\xe8",
		"123456789": "\x09123456789\x26\x39\xf4\xcb",
		"\xff":      "\x01\xff\x00\x00\x00\xff",
	} {
		if s := wal.Seal(body); s != want {
			t.Errorf("%q: %q, not %q", body, s, want)
		}
	}
}

func TestSealLengths(t *testing.T) { // P8.1
	for n := range 124 {
		for _, body := range []string{mixed(n), strings.Repeat("\x00", n), strings.Repeat("\xff", n)} {
			s := wal.Seal(body)
			if s != sealed(body) || len(s) != n+5 {
				t.Errorf("%d bytes: %q", n, s)
			}
			for _, behind := range []string{"", "\x00", "a", s, strings.Repeat("\x00", 128)} {
				if got, ok := wal.Unseal(s + behind); got != body || !ok {
					t.Errorf("%d bytes, %d behind: %q %v", n, len(behind), got, ok)
				}
			}
		}
	}
	for _, n := range []int{124, 125, 128, 255, 256, 257, 379, 1 << 16} {
		if s := wal.Seal(mixed(n)); s != "" {
			t.Errorf("%d bytes: %.20q", n, s)
		}
	}
}

func checkNotSealed(t *testing.T, s string) {
	t.Helper()
	if body, ok := wal.Unseal(s); body != "" || ok {
		t.Errorf("%.40q: %.40q %v", s, body, ok)
	}
}

func TestUnsealRefuses(t *testing.T) { // P8.1
	for _, n := range []int{124, 125, 127, 128, 200, 255} { // a longer body has no Seal, though length and sum are right
		checkNotSealed(t, sealed(mixed(n)))
		checkNotSealed(t, sealed(mixed(n))+strings.Repeat("\x00", 256))
	}
	for _, s := range []string{
		"a\x43\xbe\xb7\xe8",                      // no length
		"\x01a\xe8\xb7\xbe\x43",                  // the highest first
		"\x01\x43\xbe\xb7\xe8a",                  // the sum ahead
		"\x00a\x43\xbe\xb7\xe8",                  // another length
		"\x02a\x43\xbe\xb7\xe8",                  //
		"\x02a\x43\xbe\xb7\xe8\x00",              //
		crc.Put("\x01a"),                         // the sum has the length in it
		strings.Repeat("\xff", 128),              //
		"\x01" + strings.Repeat("\x00", 127),     //
		"\x00\x00\x00\x00\x01",                   //
		" " + wal.Seal("a"),                      // it does not begin so
		strings.Repeat("\x00", 4),                //
		"\x7b" + strings.Repeat("\x00", 123+4-1), // a byte less
	} {
		checkNotSealed(t, s)
	}
}

func TestUnsealOfOtherBytes(t *testing.T) { // P8.1
	for _, body := range []string{"", "a", "123456789", mixed(100), mixed(123)} {
		s := wal.Seal(body)
		for i := range len(s) {
			checkNotSealed(t, s[:i])
			l := []byte(s)
			for range 255 {
				l[i]++
				checkNotSealed(t, string(l))
			}
		}
	}
}

func TestSealMemory(t *testing.T) { // R4
	inside := func(part, whole string) bool {
		at, from := uintptr(unsafe.Pointer(unsafe.StringData(part))), uintptr(unsafe.Pointer(unsafe.StringData(whole)))
		return at >= from && at < from+uintptr(len(whole))
	}
	body := mixed(100)
	s := wal.Seal(body)
	got, _ := wal.Unseal(s)
	if inside(s, body) || inside(got, s) {
		t.Error("an answer shares memory with an argument")
	}
}
