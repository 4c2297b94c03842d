// Package value is layer 1: typed values, their order, and their text.
package value

import (
	"cmp"
	"math"

	"memoir/api"
)

// nan is the Bits of what is no number: float64 has many such bits, a value these alone.
const nan = 0x7ff8000000000000

// Right tells whether a value can be.
func Right(v api.Value) bool {
	switch v.Kind {
	case api.Null:
		return v == api.Value{}
	case api.Bool:
		return v == api.Value{Kind: api.Bool, N: v.N} && (v.N == 0 || v.N == 1)
	case api.Int:
		return v == api.Value{Kind: api.Int, N: v.N}
	case api.Float:
		return v == OfFloat(math.Float64frombits(v.Bits))
	case api.Bytes, api.Text:
		return v == api.Value{Kind: v.Kind, S: v.S} && len(v.S) <= api.MaxText
	}
	return false
}

// OfFloat is a number as a value.
func OfFloat(f float64) api.Value {
	v := api.Value{Kind: api.Float}
	switch {
	case math.IsNaN(f):
		v.Bits = nan
	case f != 0: // both zeros have the Bits 0, whatever their sign
		v.Bits = math.Float64bits(f)
	}
	return v
}

// AsFloat is a value's number.
func AsFloat(v api.Value) float64 {
	if v.Kind != api.Float || !Right(v) {
		return 0
	}
	return math.Float64frombits(v.Bits)
}

// Compare tells which one is ahead.
func Compare(a, b api.Value) int {
	switch {
	case !Right(a) || !Right(b):
		return 0
	case a.Kind != b.Kind:
		return cmp.Compare(a.Kind, b.Kind)
	case a.Kind == api.Float:
		return compareFloats(AsFloat(a), AsFloat(b))
	case a.Kind == api.Bytes || a.Kind == api.Text:
		return cmp.Compare(a.S, b.S)
	}
	return cmp.Compare(a.N, b.N)
}

// compareFloats lays what is no number above all numbers, where cmp.Compare lays it below them.
func compareFloats(x, y float64) int {
	switch {
	case math.IsNaN(x) && math.IsNaN(y):
		return 0
	case math.IsNaN(x):
		return 1
	case math.IsNaN(y) || x < y:
		return -1
	case x > y:
		return 1
	}
	return 0
}

// Same tells whether two are alike.
func Same(a, b api.Value) bool {
	return a == b && Right(a)
}

// Truth is a truth, or none.
func Truth(v api.Value) int {
	if v.Kind != api.Bool || !Right(v) {
		return -1
	}
	return v.N
}
