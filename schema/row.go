package schema

import (
	"slices"
	"strings"

	"memoir/api"
	"memoir/value"
)

// Fits tells what is wrong with a row.
func Fits(s api.Schema, row []api.Value) api.Errno {
	if !Right(s) {
		return api.ErrSchema
	}
	if len(row) != len(s.Cols) {
		return api.ErrType
	}
	for i, v := range row {
		if !holds(s.Cols[i], v) {
			return api.ErrType
		}
	}
	return api.OK
}

// Key is a row's key.
func Key(s api.Schema, row []api.Value) []api.Value {
	if Fits(s, row) != api.OK {
		return nil
	}
	return copied(row[:s.Keys])
}

// Widen is a row with Null for what it has not.
func Widen(s api.Schema, row []api.Value) ([]api.Value, api.Errno) {
	if !Right(s) {
		return nil, api.ErrSchema
	}
	if len(row) > len(s.Cols) {
		return nil, api.ErrType
	}
	wide := slices.Concat(row, make([]api.Value, len(s.Cols)-len(row)))
	if e := Fits(s, wide); e != api.OK {
		return nil, e
	}
	return copied(wide), api.OK
}

// holds tells whether a column of a right schema can have a value.
func holds(c api.Column, v api.Value) bool {
	return value.Right(v) && (v.Kind == c.Kind || v.Kind == api.Null && !c.Need)
}

// copied is values in new memory, their texts too.
func copied(l []api.Value) []api.Value {
	var c []api.Value
	for _, v := range l {
		v.S = strings.Clone(v.S)
		c = append(c, v)
	}
	return c
}
