package code

import (
	"strings"

	"memoir/api"
	"memoir/value"
)

const (
	maxText = 1000000
	maxRow  = 1000
)

// Reader reads bytes.
type Reader struct {
	bytes string
	place int
	err   api.Errno
}

// New is a reader of bytes.
func New(s string) *Reader {
	return &Reader{bytes: strings.Clone(s)}
}

// Uint reads a number.
func (r *Reader) Uint() uint64 {
	return read(r, (*Reader).number)
}

// Int reads a number, be it below 0.
func (r *Reader) Int() int {
	return read(r, (*Reader).signed)
}

// Text reads a text.
func (r *Reader) Text() string {
	return read(r, func(r *Reader) string { return r.text(maxText) })
}

// Value reads a value.
func (r *Reader) Value() api.Value {
	return read(r, (*Reader).value)
}

// Row reads values.
func (r *Reader) Row() []api.Value {
	return read(r, (*Reader).row)
}

// Left is how many bytes are left.
func (r *Reader) Left() int {
	if r == nil {
		return 0
	}
	return len(r.bytes) - r.place
}

// Err is what was wrong.
func (r *Reader) Err() api.Errno {
	if r == nil {
		return api.ErrNil
	}
	return r.err
}

// read is what part reads from the place on. The parts below panic with the error that they meet, so that none of them needs to ask whether the one ahead of it went well; here alone that panic ends.
func read[T any](r *Reader, part func(*Reader) T) (answer T) {
	if r.Err() != api.OK {
		return answer
	}
	start := r.place
	defer func() {
		if e, ok := recover().(api.Errno); ok {
			r.place, r.err = start, e
		}
	}()
	return part(r)
}

func (r *Reader) octet() byte {
	if r.place == len(r.bytes) {
		panic(api.ErrShort)
	}
	c := r.bytes[r.place]
	r.place++
	return c
}

func (r *Reader) number() uint64 {
	var n uint64
	for shift := 0; ; shift += 7 {
		c := r.octet()
		// The tenth byte has the highest bit alone: what is above 1 there is too great, or goes on.
		if shift == 63 && c > 1 || shift > 0 && c == 0 {
			panic(api.ErrForm)
		}
		n |= uint64(c&127) << shift
		if c < 128 {
			return n
		}
	}
}

func (r *Reader) signed() int {
	n := r.number()
	if n%2 == 1 {
		return ^int(n / 2)
	}
	return int(n / 2)
}

// length is held against its limit before it is an int, which can't have all of them.
func (r *Reader) length(most int) int {
	n := r.number()
	if n > uint64(most) {
		panic(api.ErrBig)
	}
	return int(n)
}

func (r *Reader) text(most int) string {
	n := r.length(most)
	if n > r.Left() {
		panic(api.ErrShort)
	}
	start := r.place
	r.place += n
	return strings.Clone(r.bytes[start:r.place])
}

func (r *Reader) row() []api.Value {
	var l []api.Value
	for range r.length(maxRow) {
		l = append(l, r.value())
	}
	return l
}

func (r *Reader) value() api.Value {
	v := api.Value{Kind: int(r.octet())}
	switch v.Kind {
	case api.Bool:
		v.N = int(r.octet())
	case api.Int:
		v.N = r.signed()
	case api.Float:
		v.Bits = r.bits()
	case api.Bytes, api.Text:
		v.S = r.text(api.MaxText)
	}
	if !value.Right(v) { // a kind, a Bool's byte or a Float's Bits that can't be
		panic(api.ErrForm)
	}
	return v
}

func (r *Reader) bits() uint64 {
	var n uint64
	for range 8 {
		n = n<<8 | uint64(r.octet())
	}
	return n
}
