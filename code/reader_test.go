package code_test

import (
	"slices"
	"strings"
	"testing"
	"unsafe"

	"memoir/api"
	"memoir/code"
	"memoir/value"
)

// call is one of a reader's calls: what it answers, whether that is zero, and its bytes.
type call struct {
	name string
	read func(r *code.Reader) (answer any, zero bool, bytes string)
}

func calls() []call {
	return []call{
		{"Uint", func(r *code.Reader) (any, bool, string) { n := r.Uint(); return n, n == 0, code.Uint(n) }},
		{"Int", func(r *code.Reader) (any, bool, string) { n := r.Int(); return n, n == 0, code.Int(n) }},
		{"Text", func(r *code.Reader) (any, bool, string) { s := r.Text(); return s, s == "", code.Text(s) }},
		{"Value", func(r *code.Reader) (any, bool, string) { v := r.Value(); return v, v == api.Value{}, code.Value(v) }},
		{"Row", func(r *code.Reader) (any, bool, string) { l := r.Row(); return l, l == nil, code.Row(l) }},
	}
}

func callOf(name string) call {
	l := calls()
	return l[slices.IndexFunc(l, func(c call) bool { return c.name == name })]
}

// checkRead reads each of the things, with bytes ahead of it and behind it.
func checkRead[T comparable](t *testing.T, read func(*code.Reader) T, l []pair[T]) {
	t.Helper()
	for _, p := range l {
		for _, behind := range []string{"", "\x00", "\x80", "\xff\xff"} {
			r := code.New("\x07" + p.bytes + behind)
			if r.Uint() != 7 {
				t.Error("not 7")
			}
			got := read(r)
			if r.Err() != api.OK || r.Left() != len(behind) {
				t.Errorf("%.40q: error %d, %d left", p.bytes, r.Err(), r.Left())
			}
			if got != p.thing {
				t.Errorf("%.40q: read as %.40v, not %.40v", p.bytes, got, p.thing)
			}
		}
	}
}

func TestRead(t *testing.T) { // P2.2, P2.4
	checkRead(t, (*code.Reader).Uint, numbers())
	checkRead(t, (*code.Reader).Int, integers())
	checkRead(t, (*code.Reader).Text, texts())
	checkRead(t, (*code.Reader).Value, values())
	for _, p := range rows() {
		r := code.New(p.bytes + "\x80")
		if l := r.Row(); !slices.Equal(l, p.thing) || r.Err() != api.OK || r.Left() != 1 {
			t.Errorf("%.40q: read as %.40v, %d left", p.bytes, l, r.Left())
		}
	}
}

// TestReadAll reads all kinds of things from one reader, each behind the other.
func TestReadAll(t *testing.T) { // P2.2, P2.3, P2.4
	l := []api.Value{{}, {Kind: api.Bool, N: 1}, integer(-300), value.OfFloat(0.5), bytesOf("\x00"), textOf("ab")}
	s := code.Uint(300) + code.Int(-1) + code.Text("ab") + code.Value(l[3]) + code.Row(l)
	r := code.New(s)
	if r.Err() != api.OK || r.Left() != len(s) {
		t.Error(r.Err(), r.Left())
	}
	if r.Uint() != 300 || r.Left() != len(s)-2 || r.Int() != -1 || r.Left() != len(s)-3 || r.Text() != "ab" || r.Left() != len(s)-6 {
		t.Error(r.Err(), r.Left())
	}
	if r.Value() != l[3] || r.Left() != len(s)-15 || !slices.Equal(r.Row(), l) || r.Left() != 0 || r.Err() != api.OK {
		t.Error(r.Err(), r.Left())
	}
}

type bad struct {
	call, bytes string
	err         api.Errno
}

// badNumbers is what no Uint, and with it no Int and no length, can begin with.
func badNumbers() []bad {
	var l []bad
	for _, name := range []string{"Uint", "Int", "Text", "Row"} {
		l = append(l,
			bad{name, "", api.ErrShort}, bad{name, "\x80", api.ErrShort}, bad{name, "\xff\xff", api.ErrShort}, bad{name, nines, api.ErrShort}, bad{name, ten[:9], api.ErrShort},
			bad{name, "\x80\x00", api.ErrForm}, bad{name, "\xff\x00", api.ErrForm}, bad{name, "\x81\x80\x00abc", api.ErrForm}, bad{name, nines + "\x00", api.ErrForm}, bad{name, ten[:9] + "\x00", api.ErrForm},
			bad{name, nines + "\x02", api.ErrForm}, bad{name, nines + "\x03", api.ErrForm}, bad{name, nines + "\x7f", api.ErrForm},
			bad{name, nines + "\x80", api.ErrForm}, bad{name, nines + "\x81", api.ErrForm}, bad{name, nines + "\x80\x00", api.ErrForm}, bad{name, nines + "\x80\x01", api.ErrForm}, bad{name, nines + nines, api.ErrForm},
		)
	}
	return l
}

func badTexts() []bad {
	return []bad{
		{"Text", "\x01", api.ErrShort}, {"Text", "\x03ab", api.ErrShort}, {"Text", "\x80\x01" + filled(127), api.ErrShort},
		{"Text", "\xc0\x84\x3d", api.ErrShort}, {"Text", "\xc0\x84\x3d" + filled(999999), api.ErrShort},
		{"Text", "\xc1\x84\x3d", api.ErrBig}, {"Text", "\x80\x80\x80\x80\x10", api.ErrBig}, {"Text", nines + "\x01", api.ErrBig}, {"Text", ten, api.ErrBig}, {"Text", ten + "abc", api.ErrBig},
	}
}

func badValues() []bad {
	l := []bad{
		{"Value", "", api.ErrShort}, {"Value", "\x01", api.ErrShort}, {"Value", "\x02", api.ErrShort}, {"Value", "\x03", api.ErrShort}, {"Value", "\x04", api.ErrShort}, {"Value", "\x05", api.ErrShort},
		{"Value", "\x06", api.ErrForm}, {"Value", "\x07\x00", api.ErrForm}, {"Value", "\x80", api.ErrForm}, {"Value", "\x82\x00", api.ErrForm}, {"Value", "\xff\x00\x00", api.ErrForm},
		{"Value", "\x01\x02", api.ErrForm}, {"Value", "\x01\x80", api.ErrForm}, {"Value", "\x01\xff", api.ErrForm},
		{"Value", "\x02\x80", api.ErrShort}, {"Value", "\x02\x80\x00", api.ErrForm}, {"Value", "\x02" + nines + "\x02", api.ErrForm},
		{"Value", "\x03\x80\x00\x00\x00\x00\x00\x00", api.ErrShort}, {"Value", "\x03\xff\xff\xff\xff\xff\xff\xff", api.ErrShort},
		{"Value", "\x03\x80\x00\x00\x00\x00\x00\x00\x00", api.ErrForm}, {"Value", "\x03\x7f\xf8\x00\x00\x00\x00\x00\x01", api.ErrForm}, {"Value", "\x03\xff\xf8\x00\x00\x00\x00\x00\x00", api.ErrForm}, {"Value", "\x03\x7f\xf0\x00\x00\x00\x00\x00\x01\x00", api.ErrForm},
	}
	for _, kind := range []string{"\x04", "\x05"} {
		l = append(l,
			bad{"Value", kind + "\x80\x00", api.ErrForm}, bad{"Value", kind + "\x80", api.ErrShort}, bad{"Value", kind + "\x03ab", api.ErrShort},
			bad{"Value", kind + "\x80\x20" + filled(api.MaxText-1), api.ErrShort},
			bad{"Value", kind + "\x81\x20", api.ErrBig}, bad{"Value", kind + "\x81\x20" + filled(api.MaxText+1), api.ErrBig}, bad{"Value", kind + "\xc0\x84\x3d", api.ErrBig}, bad{"Value", kind + ten, api.ErrBig},
		)
	}
	return l
}

// badRows has rows with two faults too: the one on the left is told.
func badRows() []bad {
	nulls := strings.Repeat("\x00", 999)
	return []bad{
		{"Row", "\x01", api.ErrShort}, {"Row", "\x02\x00", api.ErrShort}, {"Row", "\xe8\x07" + nulls, api.ErrShort},
		{"Row", "\xe9\x07", api.ErrBig}, {"Row", "\xe9\x07" + nulls + "\x00\x00", api.ErrBig}, {"Row", ten, api.ErrBig}, {"Row", nines + "\x01", api.ErrBig}, {"Row", "\xe9\x07\x06", api.ErrBig},
		{"Row", "\x01\x06", api.ErrForm}, {"Row", "\xe8\x07" + nulls + "\x06", api.ErrForm}, {"Row", "\x02\x00\x01\x02", api.ErrForm}, {"Row", "\x01\x05\x81\x20", api.ErrBig}, {"Row", "\x01\x05\x02a", api.ErrShort},
		{"Row", "\x03\x06\x05\x81\x20", api.ErrForm}, {"Row", "\x03\x05\x81\x20\x06", api.ErrBig}, {"Row", "\x09\x06", api.ErrForm}, {"Row", "\x02\x01\x02\x05\xff", api.ErrForm},
	}
}

func TestReadBad(t *testing.T) { // P2.2
	for _, b := range slices.Concat(badNumbers(), badTexts(), badValues(), badRows()) {
		c := callOf(b.call)
		for _, ahead := range []string{"", "\x05"} {
			r := code.New(ahead + b.bytes)
			for range ahead {
				r.Uint()
			}
			if v, zero, _ := c.read(r); !zero || r.Err() != b.err || r.Left() != len(b.bytes) {
				t.Errorf("%s of %.40q: %.40v, error %d and %d left, not error %d and %d left", b.call, b.bytes, v, r.Err(), r.Left(), b.err, len(b.bytes))
			}
			checkStopped(t, r, b.err, len(b.bytes))
		}
	}
}

// checkStopped sees that a reader that met an error answers zeros from then on, and stays.
func checkStopped(t *testing.T, r *code.Reader, e api.Errno, left int) {
	t.Helper()
	for _, c := range calls() {
		if v, zero, _ := c.read(r); !zero || r.Err() != e || r.Left() != left {
			t.Errorf("%s behind an error: %.40v, error %d, %d left", c.name, v, r.Err(), r.Left())
		}
	}
}

func TestNil(t *testing.T) { // P2.3
	var r *code.Reader
	checkStopped(t, r, api.ErrNil, 0)
	if r.Left() != 0 || r.Err() != api.ErrNil {
		t.Error(r.Left(), r.Err())
	}
	if r := code.New(""); r.Left() != 0 || r.Err() != api.OK {
		t.Error(r.Left(), r.Err())
	}
}

// TestApart reads two readers of the same bytes by turns.
func TestApart(t *testing.T) { // R4, R5
	a, b := code.New("\x01\x02\x80"), code.New("\x01\x02\x80")
	a.Uint()
	a.Uint()
	a.Uint()
	if a.Err() != api.ErrShort || b.Err() != api.OK || b.Left() != 3 || b.Uint() != 1 || b.Int() != 1 || b.Left() != 1 || a.Left() != 1 {
		t.Error(a.Err(), b.Err(), a.Left(), b.Left())
	}
}

// TestCut cuts what was written: each piece of its beginning is too short, wherever it ends.
func TestCut(t *testing.T) { // P2.2
	for _, p := range values() {
		checkCut(t, "Value", p.bytes)
	}
	for _, p := range numbers() {
		checkCut(t, "Uint", p.bytes)
		checkCut(t, "Int", p.bytes)
	}
	for _, p := range texts()[:7] {
		checkCut(t, "Text", p.bytes)
	}
	for _, p := range rows()[:6] {
		checkCut(t, "Row", p.bytes)
	}
}

func checkCut(t *testing.T, name, s string) {
	t.Helper()
	for n := range len(s) {
		r := code.New(s[:n])
		if _, zero, _ := callOf(name).read(r); !zero || r.Err() != api.ErrShort || r.Left() != n {
			t.Errorf("%s of %.40q: error %d, %d left", name, s[:n], r.Err(), r.Left())
		}
	}
}

// checkLaw sees that what is read without an error is written as the bytes that were read, and that else nothing is answered.
func checkLaw(t *testing.T, s string) {
	t.Helper()
	for _, c := range calls() {
		r := code.New(s)
		v, zero, again := c.read(r)
		switch took := len(s) - r.Left(); {
		case r.Err() == api.OK && again != s[:took]:
			t.Errorf("%s of %.40q: %.40v, that is %.40q", c.name, s, v, again)
		case r.Err() != api.OK && (!zero || took != 0):
			t.Errorf("%s of %.40q: error %d with %.40v, %d read", c.name, s, r.Err(), v, took)
		}
	}
}

// TestLaws reads all texts of up to two bytes, and what is written with one byte of it changed.
func TestLaws(t *testing.T) { // P2.4
	for a := range 256 {
		checkLaw(t, string([]byte{byte(a)}))
		for b := range 256 {
			checkLaw(t, string([]byte{byte(a), byte(b)}))
		}
	}
	for _, p := range values()[:18] {
		checkChanged(t, p.bytes)
		checkChanged(t, "\x02"+p.bytes+p.bytes)
	}
	for _, p := range numbers() {
		checkChanged(t, p.bytes+"\x00\x01")
	}
}

func checkChanged(t *testing.T, s string) {
	t.Helper()
	for i := range len(s) {
		l := []byte(s)
		for c := range 256 {
			l[i] = byte(c)
			checkLaw(t, string(l))
		}
	}
}

// within tells whether a text is a piece of another's memory.
func within(s, whole string) bool {
	at, from := uintptr(unsafe.Pointer(unsafe.StringData(s))), uintptr(unsafe.Pointer(unsafe.StringData(whole)))
	return at >= from && at < from+uintptr(len(whole))
}

func TestMemory(t *testing.T) { // R4
	room := []byte("\x03abc\x05\x03abc\x02\x05\x03abc\x05\x03abc")
	s := unsafe.String(&room[0], len(room))
	r := code.New(s)
	again := *r
	a, b, l := r.Text(), r.Value(), r.Row()
	if a != "abc" || b != textOf("abc") || !slices.Equal(l, []api.Value{b, b}) {
		t.Fatal(a, b, l)
	}
	for _, answer := range []string{a, b.S, l[0].S, l[1].S} {
		if within(answer, s) {
			t.Error("an answer is a piece of what was handed in")
		}
	}
	clear(room)
	if c := again.Text(); c != "abc" || within(c, a) {
		t.Error("a reader keeps what was handed in, or answers what it keeps")
	}
}

// TestMemoryOfRows writes into the spare room of one row: the next one is as it was.
func TestMemoryOfRows(t *testing.T) { // R4
	s := code.Row([]api.Value{integer(1), integer(2), integer(3)})
	r := code.New(s + s)
	a, b := r.Row(), r.Row()
	_ = append(a, integer(9), integer(9), integer(9), integer(9))
	a[0] = integer(8)
	if !slices.Equal(b, []api.Value{integer(1), integer(2), integer(3)}) {
		t.Error(b)
	}
}
