package key

import (
	"strings"

	"memoir/api"
	"memoir/value"
)

// Parse is bytes' key.
func Parse(s string) ([]api.Value, api.Errno) {
	l, ok := read(s)
	// A key has one row of bytes: what reads as one, but is not how it is written, is no key's.
	if !ok || Of(l) != s {
		return nil, api.ErrForm
	}
	return l, api.OK
}

// read takes more than keys' bytes (values that are not right, say, and what stands behind the end); Parse sees to that.
func read(s string) ([]api.Value, bool) {
	var l []api.Value
	for s != "" && s[0] != 0 && len(l) < maxValues {
		kind, rest := int(s[0])-1, s[1:]
		n := size(kind, rest)
		if n < 0 || n > len(rest) {
			return nil, false
		}
		l = append(l, valueOf(kind, rest[:n]))
		s = rest[n:]
	}
	return l, true
}

// size is how many bytes a value of a kind has behind that kind; below 0, if it can't be one.
func size(kind int, s string) int {
	switch kind {
	case api.Null:
		return 0
	case api.Bool:
		return 1
	case api.Int, api.Float:
		return numberSize
	case api.Bytes, api.Text:
		if n := strings.Index(s, textEnd); n >= 0 {
			return n + len(textEnd)
		}
	}
	return -1
}

// valueOf is the value of a kind with just these bytes behind it.
func valueOf(kind int, s string) api.Value {
	v := api.Value{Kind: kind}
	switch kind {
	case api.Bool:
		v.N = int(s[0])
	case api.Int:
		v.N = int(number(s) ^ highest)
	case api.Float:
		return value.OfFloat(turnedBack(number(s)))
	case api.Bytes, api.Text:
		inner := strings.TrimSuffix(s, textEnd)
		v.S = strings.Clone(strings.ReplaceAll(inner, innerZero, zero))
	}
	return v
}

// number is the number of bytes, the highest first.
func number(s string) uint64 {
	var n uint64
	for i := range len(s) {
		n = n<<8 | uint64(s[i])
	}
	return n
}
