package value

import (
	"strconv"
	"strings"

	"memoir/api"
)

const digits = "0123456789abcdef"

// Show is a value as text.
func Show(v api.Value) string {
	switch {
	case !Right(v):
		return ""
	case v.Kind == api.Null:
		return "null"
	case v.Kind == api.Bool:
		return strconv.FormatBool(v.N == 1)
	case v.Kind == api.Int:
		return strconv.Itoa(v.N)
	case v.Kind == api.Float:
		return showBits(v.Bits)
	case v.Kind == api.Bytes:
		return showBytes(v.S)
	}
	return showText(v.S)
}

func showBits(n uint64) string {
	var b strings.Builder
	b.WriteByte('f')
	for shift := 56; shift >= 0; shift -= 8 {
		writeHex(&b, byte(n>>shift))
	}
	return b.String()
}

func showBytes(s string) string {
	var b strings.Builder
	b.WriteByte('x')
	for i := range len(s) {
		writeHex(&b, s[i])
	}
	return b.String()
}

func showText(s string) string {
	var b strings.Builder
	b.WriteByte('"')
	for i := range len(s) {
		writeLetter(&b, s[i])
	}
	b.WriteByte('"')
	return b.String()
}

func writeLetter(b *strings.Builder, c byte) {
	switch {
	case c == '"' || c == '\\':
		b.WriteByte('\\')
		b.WriteByte(c)
	case c < 32 || c > 126:
		b.WriteString(`\x`)
		writeHex(b, c)
	default:
		b.WriteByte(c)
	}
}

func writeHex(b *strings.Builder, c byte) {
	b.WriteByte(digits[c>>4])
	b.WriteByte(digits[c&15])
}

// Parse is a text's value.
func Parse(s string) (api.Value, api.Errno) {
	v, ok := read(s)
	// A right value has one text: what reads as one, but is not how it is shown, is no value's text.
	if !ok || !Right(v) || Show(v) != s {
		return api.Value{}, api.ErrForm
	}
	return v, api.OK
}

// read takes more than a value's one text (capital digits, say); Parse sees to that.
func read(s string) (api.Value, bool) {
	switch {
	case s == "null":
		return api.Value{}, true
	case s == "false":
		return api.Value{Kind: api.Bool}, true
	case s == "true":
		return api.Value{Kind: api.Bool, N: 1}, true
	case strings.HasPrefix(s, "f"):
		n, err := strconv.ParseUint(s[1:], 16, 64)
		return api.Value{Kind: api.Float, Bits: n}, err == nil
	case strings.HasPrefix(s, "x"):
		t, ok := readBytes(s[1:])
		return api.Value{Kind: api.Bytes, S: t}, ok
	case len(s) > 1 && s[0] == '"' && s[len(s)-1] == '"':
		t, ok := readText(s[1 : len(s)-1])
		return api.Value{Kind: api.Text, S: t}, ok
	}
	n, err := strconv.Atoi(s)
	return api.Value{Kind: api.Int, N: n}, err == nil
}

func readBytes(s string) (string, bool) {
	var b strings.Builder
	for i := 0; i < len(s); i += 2 {
		c, ok := readHex(s[i:])
		if !ok {
			return "", false
		}
		b.WriteByte(c)
	}
	return b.String(), true
}

func readText(s string) (string, bool) {
	var b strings.Builder
	for i := 0; i < len(s); {
		c, n, ok := readLetter(s[i:])
		if !ok {
			return "", false
		}
		b.WriteByte(c)
		i += n
	}
	return b.String(), true
}

// readLetter is the byte that s begins with, and how many bytes of s tell it.
func readLetter(s string) (byte, int, bool) {
	switch {
	case s[0] != '\\':
		return s[0], 1, true
	case strings.HasPrefix(s, `\x`):
		c, ok := readHex(s[2:])
		return c, 4, ok
	case len(s) > 1:
		return s[1], 2, true
	}
	return 0, 0, false
}

// readHex is the byte of the two digits that s begins with.
func readHex(s string) (byte, bool) {
	if len(s) < 2 {
		return 0, false
	}
	n, err := strconv.ParseUint(s[:2], 16, 8)
	return byte(n), err == nil
}
