package schema

import (
	"strings"

	"memoir/api"
	"memoir/code"
)

// Encode is a schema's bytes.
func Encode(s api.Schema) string {
	if !Right(s) {
		return ""
	}
	var b strings.Builder
	b.WriteString(code.Text(s.Name))
	b.WriteString(code.Uint(uint64(s.Keys)))
	b.WriteString(code.Uint(uint64(len(s.Cols))))
	for _, c := range s.Cols {
		b.WriteString(code.Text(c.Name))
		b.WriteString(code.Uint(uint64(c.Kind)))
		b.WriteString(code.Uint(needBit(c)))
	}
	return b.String()
}

// Decode is bytes' schema.
func Decode(b string) (api.Schema, api.Errno) {
	s := read(code.New(b))
	// A schema has one row of bytes: what reads as one, but is not how it is written, is no schema's.
	if !Right(s) || Encode(s) != b {
		return api.Schema{}, api.ErrForm
	}
	return s, api.OK
}

// read takes more than schemas' bytes (what stands behind the end, say, and what the reader can't read); Decode sees to that.
func read(r *code.Reader) api.Schema {
	var s api.Schema
	s.Name = r.Text()
	s.Keys = int(r.Uint())
	for range min(r.Uint(), api.MaxCols) {
		var c api.Column
		c.Name = r.Text()
		c.Kind = int(r.Uint())
		c.Need = r.Uint() == 1
		s.Cols = append(s.Cols, c)
	}
	return s
}

func needBit(c api.Column) uint64 {
	if c.Need {
		return 1
	}
	return 0
}
