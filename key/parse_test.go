package key_test

import (
	"slices"
	"testing"
	"unsafe"

	"memoir/api"
	"memoir/key"
	"memoir/value"
)

func checkParsed(t *testing.T, s string, want []api.Value) {
	t.Helper()
	if l, e := key.Parse(s); e != api.OK || !slices.Equal(l, want) {
		t.Errorf("%.40q: %s %d, not %s", s, brief(l...), e, brief(want...))
	}
}

func TestParse(t *testing.T) { // P4.2
	checkParsed(t, "\x00", nil)
	checkParsed(t, "\x02\x01\x06a\x00\x01\x00", []api.Value{boolean(1), textOf("a")})
	all := written()
	for i, c := range all {
		checkParsed(t, c.s+"\x00", []api.Value{c.v})
		for _, d := range all {
			checkParsed(t, c.s+d.s+"\x00", []api.Value{c.v, d.v})
		}
		var l []api.Value
		s := ""
		for j := range 8 {
			d := all[(i+j)%len(all)]
			l, s = append(l, d.v), s+d.s
		}
		checkParsed(t, s+"\x00", l)
	}
}

func checkNone(t *testing.T, s string) {
	t.Helper()
	if l, e := key.Parse(s); e != api.ErrForm || len(l) != 0 {
		t.Errorf("%.40q: %s %d", s, brief(l...), e)
	}
}

// none is bytes that are no key's.
func none() []string {
	return []string{
		"", "\x00\x00", "\x00\x01", "\x00\x01\x00", "\x01", "\x01\x01", "\x01\x00\x00", "\x01\x00\x01\x00", "a",
		"\x07\x00", "\x07\x00\x01\x00", "\x08\x00", "\x80\x00", "\xff\x00", "\x01\x07\x00", "\xff\xff\xff\xff\xff\xff\xff\xff\xff\x00",
		"\x02", "\x02\x00", "\x02\x01", "\x02\x02\x00", "\x02\x80\x00", "\x02\xff\x00", "\x02\x01\x02",
		"\x03", "\x03\x00", "\x03\x80\x00", "\x03\x80\x00\x00\x00\x00\x00\x00\x00", "\x03\x80\x00\x00\x00\x00\x00\x00\x00\x00\x00", "\x03\x80\x00\x00\x00\x00\x00\x00\x00\x80\x00",
		"\x04", "\x04\x00", "\x04\xbf\xf0\x00\x00\x00\x00\x00\x00", "\x04\xbf\xf0\x00\x00\x00\x00\x00\x00\x00\x00",
		// Minus zero, and what is no number in other bits than a value's.
		"\x04\x7f\xff\xff\xff\xff\xff\xff\xff\x00",
		"\x04\xff\xf0\x00\x00\x00\x00\x00\x01\x00", "\x04\xff\xf8\x00\x00\x00\x00\x00\x01\x00", "\x04\xff\xff\xff\xff\xff\xff\xff\xff\x00",
		"\x04\x00\x00\x00\x00\x00\x00\x00\x00\x00", "\x04\x00\x07\xff\xff\xff\xff\xff\xff\x00", "\x04\x00\x0f\xff\xff\xff\xff\xff\xfe\x00",
	}
}

func noneOfTexts() []string {
	var l []string
	for _, kind := range []string{"\x05", "\x06"} {
		for _, s := range []string{
			"", "\x00", "\x01", "\xff", "a", "a\x00", "a\x00\x01", "\x00\x01", "\x00\xff", "\x00\xff\x00", "\x00\xff\x00\x01", "a\x00\x02\x00", "a\x00\x00", "a\x00\x00\x00",
			"\x00\x00\x01\x00", "a\x00\x00\x01\x00", "\x00\x02\x00\x01\x00", "\x00a\x00\x01\x00", "\x00\xfe\x00\x01\x00", "\x00\xff\x00\x00\x01\x00",
			"\x00\x01\x00\x00", "\x00\x01\x00\x01", "\x00\x01\x00\x01\x00", "\x00\x01a\x00", "\x00\x01\xff\x00",
			filled(api.MaxText+1, "a") + "\x00\x01\x00", filled(api.MaxText+1, "\x00\xff") + "\x00\x01\x00", filled(100000, "b") + "\x00\x01\x00", filled(100000, "\x00"), filled(100000, "c"),
		} {
			l = append(l, kind+s, "\x02\x01"+kind+s)
		}
	}
	return l
}

func TestParseNone(t *testing.T) { // P4.2
	for _, s := range append(none(), noneOfTexts()...) {
		checkNone(t, s)
	}
}

func TestParseTooMany(t *testing.T) { // P4.2
	for _, one := range []string{"\x01", "\x02\x01", "\x03\x80\x00\x00\x00\x00\x00\x00\x00", "\x06\x00\x01"} {
		if l, e := key.Parse(filled(8, one) + "\x00"); e != api.OK || len(l) != 8 {
			t.Errorf("8 of %q: %s %d", one, brief(l...), e)
		}
		for _, n := range []int{9, 10, 16, 255, 256, 100000} {
			checkNone(t, filled(n, one)+"\x00")
		}
		for _, behind := range []string{"", one, "\x00\x00", "\x00" + one, "\x00" + one + "\x00"} {
			checkNone(t, filled(8, one)+behind)
		}
	}
}

// samples is keys of all kinds of values, the short ones of those that are written.
func samples() [][]api.Value {
	keys := [][]api.Value{nil, make([]api.Value, 8)}
	for _, v := range ordered() {
		keys = append(keys, []api.Value{v}, []api.Value{v, textOf("z"), v})
	}
	return append(keys, ordered()[:8], []api.Value{textOf("\x00\xff\x00"), integer(-1), bytesOf("\x00"), value.OfFloat(-2.5), {}, boolean(1)})
}

// TestParseParts cuts keys' bytes: no piece of them that is less is a key, and none with more behind it.
func TestParseParts(t *testing.T) { // P4.2
	for _, l := range samples() {
		s := key.Of(l)
		checkParsed(t, s, l)
		for n := range len(s) {
			checkNone(t, s[:n])
		}
		for _, more := range []string{"\x00", "\x01", "\x00\x01", "\xff", s} {
			checkNone(t, s+more)
		}
	}
}

// checkOneRow sees that what is read as a key has these bytes, and no others.
func checkOneRow(t *testing.T, s string) {
	t.Helper()
	switch l, e := key.Parse(s); {
	case e == api.OK && key.Of(l) != s:
		t.Fatalf("%q: %s, whose bytes are %q", s, brief(l...), key.Of(l))
	case e != api.OK && (e != api.ErrForm || l != nil):
		t.Fatalf("%q: %s %d", s, brief(l...), e)
	}
}

// TestOneRow puts each byte in the place of each one of keys, and between them.
func TestOneRow(t *testing.T) { // P4.2, P4.4
	for _, l := range samples() {
		s := key.Of(l)
		for i := range len(s) {
			for n := range 256 {
				c := string([]byte{byte(n)})
				checkOneRow(t, s[:i]+c+s[i+1:])
				checkOneRow(t, s[:i]+c+s[i:])
			}
			checkOneRow(t, s[:i]+s[i+1:])
		}
	}
}

// TestShortRows asks all rows of up to five of those bytes that mean most: the keys among them stand in the order of the rows.
func TestShortRows(t *testing.T) { // P4.2, P4.4
	all := []string{""}
	for i := 0; len(all[i]) < 5; i++ {
		for _, c := range []string{"\x00", "\x01", "\x02", "\x05", "\x06", "\xff"} {
			all = append(all, all[i]+c)
		}
	}
	slices.Sort(all)
	var last []api.Value
	found := 0
	for _, s := range all {
		checkOneRow(t, s)
		l, e := key.Parse(s)
		if e != api.OK {
			continue
		}
		if found > 0 && key.Compare(last, l) != -1 {
			t.Fatalf("%q: %s is not above %s", s, brief(l...), brief(last...))
		}
		last = l
		found++
	}
	if want := 1 + 1 + 3 + 7 + 25; found != want { // of one byte, two, up to five
		t.Errorf("%d keys, not %d", found, want)
	}
}

func TestParseKeepsNothing(t *testing.T) { // R4
	room := []byte("\x06abc\x00\x01\x05\x00\xffd\x00\x01\x05abc\x00\x01\x00")
	s := unsafe.String(&room[0], len(room))
	want := []api.Value{textOf("abc"), bytesOf("\x00d"), bytesOf("abc")}
	a, _ := key.Parse(s)
	b, _ := key.Parse(s)
	clear(room)
	if !slices.Equal(a, want) || !slices.Equal(b, want) {
		t.Errorf("%s %s", brief(a...), brief(b...))
	}
	_ = append(a[:1], integer(1), integer(2), integer(3), integer(4))
	if !slices.Equal(b, want) {
		t.Errorf("two answers share memory: %s", brief(b...))
	}
}
