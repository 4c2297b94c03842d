package value_test

import (
	"fmt"
	"math"
	"strings"
	"testing"
	"unsafe"

	"memoir/api"
	"memoir/value"
)

// told is right values and their texts.
func told() []struct {
	v api.Value
	s string
} {
	return []struct {
		v api.Value
		s string
	}{
		{api.Value{}, "null"},
		{api.Value{Kind: api.Bool}, "false"},
		{api.Value{Kind: api.Bool, N: 1}, "true"},
		{integer(0), "0"},
		{integer(7), "7"},
		{integer(-10), "-10"},
		{integer(1 << 40), "1099511627776"},
		{integer(least), "-9223372036854775808"},
		{integer(greatest), "9223372036854775807"},
		{value.OfFloat(0), "f0000000000000000"},
		{value.OfFloat(minusZero), "f0000000000000000"},
		{value.OfFloat(1), "f3ff0000000000000"},
		{value.OfFloat(-2.5), "fc004000000000000"},
		{value.OfFloat(0.1), "f3fb999999999999a"},
		{value.OfFloat(math.SmallestNonzeroFloat64), "f0000000000000001"},
		{value.OfFloat(-math.MaxFloat64), "fffefffffffffffff"},
		{value.OfFloat(math.Inf(1)), "f7ff0000000000000"},
		{value.OfFloat(math.Inf(-1)), "ffff0000000000000"},
		{value.OfFloat(math.NaN()), "f7ff8000000000000"},
		{bits(0x0123456789abcdef), "f0123456789abcdef"},
		{bytesOf(""), "x"},
		{bytesOf("a"), "x61"},
		{bytesOf("\x00\x0f\xf0\xff"), "x000ff0ff"},
		{bytesOf(filled(api.MaxText, 0xab)), "x" + strings.Repeat("ab", api.MaxText)},
		{textOf(""), `""`},
		{textOf("a b"), `"a b"`},
		{textOf(`a"b`), `"a\"b"`},
		{textOf(`\`), `"\\"`},
		{textOf(`\x41`), `"\\x41"`},
		{textOf(`"`), `"\""`},
		{textOf("null"), `"null"`},
		{textOf("\x00\x1f ~\x7f\x80\xff\n"), `"\x00\x1f ~\x7f\x80\xff\x0a"`},
		{textOf("é"), `"\xc3\xa9"`},
		{textOf(filled(api.MaxText, 'a')), `"` + filled(api.MaxText, 'a') + `"`},
		{textOf(filled(api.MaxText, '"')), `"` + strings.Repeat(`\"`, api.MaxText) + `"`},
		{textOf(filled(api.MaxText, 255)), `"` + strings.Repeat(`\xff`, api.MaxText) + `"`},
	}
}

func TestShowAndParse(t *testing.T) { // P1.3
	for _, c := range told() {
		if s := value.Show(c.v); s != c.s {
			t.Errorf("Show(%.40v) = %.40q, want %.40q", c.v, s, c.s)
		}
		if v, e := value.Parse(c.s); v != c.v || e != api.OK {
			t.Errorf("Parse(%.40q) = %.40v, %v", c.s, v, e)
		}
	}
}

func TestShowEachByte(t *testing.T) { // P1.3
	for n := range 256 {
		c := byte(n)
		want := string([]byte{c})
		if c == '"' || c == '\\' {
			want = `\` + want
		} else if c < 32 || c > 126 {
			want = fmt.Sprintf(`\x%02x`, c)
		}
		same(t, textOf(string([]byte{c})), `"`+want+`"`)
		same(t, bytesOf(string([]byte{c})), fmt.Sprintf("x%02x", c))
	}
}

func same(t *testing.T, v api.Value, s string) {
	t.Helper()
	if got := value.Show(v); got != s {
		t.Errorf("Show(%v) = %q, want %q", v, got, s)
	}
	if got, e := value.Parse(s); got != v || e != api.OK {
		t.Errorf("Parse(%q) = %v, %v", s, got, e)
	}
}

func TestShowOfWrong(t *testing.T) { // P1.3
	for i, v := range wrong() {
		if s := value.Show(v); s != "" {
			t.Errorf("Show of wrong value %d = %.40q, want none", i, s)
		}
	}
}

// untold is texts that are no value's.
func untold() []string {
	return []string{
		"", " ", "n", "nul", "nulll", "Null", "NULL", " null", "null ", "null\n", "nil",
		"t", "tru", "True", "true ", "truefalse", "fals", "False", "falsee", "false ",
		"-", "+", "+1", "-0", "+0", "00", "01", "-01", "--1", "1-", "1 ", " 1", "1\n", "1_000", "0x1", "0b1", "1.0", "1e3", "1a", "\u0661",
		"9223372036854775808", "-9223372036854775809", "18446744073709551616", strings.Repeat("9", 5000),
		"f", "f0", "f1", "f3ff000000000000", "f3ff00000000000000", "f03ff0000000000000", "f3ff000000000000 ", "f 3ff000000000000", "f+3ff000000000000", "f-000000000000001", "f_000000000000000",
		"F3ff0000000000000", "f3FF0000000000000", "f3fF0000000000000", "f3ffg000000000000", "f0x00000000000000",
		"f8000000000000000", "f7ff8000000000001", "f7ff0000000000001", "ffff8000000000000", "fffffffffffffffff",
		"x0", "x000", "X00", "x0g", "xg0", "x0F", "xF0", "x 0", "x0 ", "x00 ", "x+1", "x-1", "x_1", "xx0", "x\"\"", "x" + strings.Repeat("61", api.MaxText+1),
		`"`, `"a`, `a"`, `a`, `'a'`, `"\"`, `"\\\"`, `"a"b"`, `"""`, `""""`, `""a`, `"a" `, ` "a"`, `"a""`, `"a"x`,
		`"\a"`, `"\n"`, `"\'"`, `"\/"`, `"\0"`, `"\u0041"`, `"\x"`, `"\x0"`, `"\x4"`, `"\xg0"`, `"\x0g"`, `"\x+1"`,
		`"\x41"`, `"\x20"`, `"\x7e"`, `"\x22"`, `"\x5c"`, `"\x0A"`, `"\xFF"`, `"\xfF"`, `"\X00"`, `"\ x00"`,
		"\"\n\"", "\"\x00\"", "\"\x1f\"", "\"\x7f\"", "\"\x80\"", "\"\xff\"", "\"é\"",
		`"` + filled(api.MaxText+1, 'a') + `"`, `"` + strings.Repeat(`\x00`, api.MaxText+1) + `"`, `"` + strings.Repeat(`\\`, api.MaxText+1) + `"`,
	}
}

func TestParseOfNone(t *testing.T) { // P1.3
	for _, s := range untold() {
		if v, e := value.Parse(s); v != (api.Value{}) || e != api.ErrForm {
			t.Errorf("Parse(%.40q) = %.40v, %v", s, v, e)
		}
	}
}

// TestOneText turns each byte of values' texts into others, takes it out, and lays others behind it: what Parse takes must be the text of what it answers.
func TestOneText(t *testing.T) { // P1.5
	for _, c := range told() {
		if len(c.s) > 100 {
			continue
		}
		for i := range len(c.s) + 1 {
			for n := range 256 {
				b := string([]byte{byte(n)})
				oneText(t, c.s[:i]+b+c.s[i:])
				if i < len(c.s) {
					oneText(t, c.s[:i]+b+c.s[i+1:])
					oneText(t, c.s[:i]+c.s[i+1:])
				}
			}
		}
	}
	for _, v := range append(mixed(), ordered()...) {
		if got, e := value.Parse(value.Show(v)); got != v || e != api.OK {
			t.Errorf("%.40v: its text is told as %.40v, %v", v, got, e)
		}
	}
}

func oneText(t *testing.T, s string) {
	t.Helper()
	v, e := value.Parse(s)
	switch e {
	case api.OK:
		if !value.Right(v) || value.Show(v) != s {
			t.Errorf("Parse(%q) = %v, whose text is %q", s, v, value.Show(v))
		}
	case api.ErrForm:
		if v != (api.Value{}) {
			t.Errorf("Parse(%q): %v beside an error", s, v)
		}
	default:
		t.Errorf("Parse(%q): %v", s, e)
	}
}

func TestParseKeepsNothing(t *testing.T) { // R4
	s := strings.Clone(`"` + filled(100, 'a') + `"`)
	v, _ := value.Parse(s)
	from := uintptr(unsafe.Pointer(unsafe.StringData(s)))
	if at := uintptr(unsafe.Pointer(unsafe.StringData(v.S))); at >= from && at < from+uintptr(len(s)) {
		t.Error("the value's text is a piece of what was handed in")
	}
}
