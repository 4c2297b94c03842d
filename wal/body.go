package wal

import (
	"strings"

	"memoir/api"
	"memoir/code"
)

const (
	slotMark  = "S"
	placeMark = "L"
	maxTurn   = 1 << 40
	partSize  = 100
)

// slot is what a slot tells: the turn, and the least turn whose places are the log's.
type slot struct{ turn, base uint64 }

func (s slot) body() string {
	return slotMark + code.Uint(s.turn) + code.Uint(s.base)
}

// slotOf is what a sector tells, 0 and 0 if it tells none: so a slot that tells none is never the greater one.
func slotOf(sector string) slot {
	body, ok := marked(sector, slotMark)
	if !ok {
		return slot{}
	}
	r := code.New(body)
	s := slot{turn: r.Uint(), base: r.Uint()}
	if r.Err() != api.OK || r.Left() > 0 || s.turn > maxTurn || s.turn < s.base {
		return slot{}
	}
	return s
}

// place is what a place tells, but its number.
type place struct {
	turn uint64
	more bool
	sum  string // the four bytes of the whole record's
	part string
}

func (p place) body(i int) string {
	var more uint64
	if p.more {
		more = 1
	}
	return placeMark + code.Uint(p.turn) + code.Uint(uint64(i)) + code.Uint(more) + p.sum + p.part
}

// placeOf is what a sector tells as the place i.
func placeOf(sector string, i int) (place, bool) {
	body, ok := marked(sector, placeMark)
	if !ok {
		return place{}, false
	}
	r := code.New(body)
	turn, at, more := r.Uint(), r.Uint(), r.Uint()
	rest := body[len(body)-r.Left():]
	if r.Err() != api.OK || at != uint64(i) || more > 1 || len(rest) < sumSize {
		return place{}, false
	}
	p := place{turn: turn, more: more == 1, sum: rest[:sumSize], part: rest[sumSize:]}
	if len(p.part) > partSize || p.more && len(p.part) < partSize {
		return place{}, false
	}
	return p, true
}

// marked is what stands behind the mark in a sealed sector's body.
func marked(sector, mark string) (string, bool) {
	body, ok := Unseal(sector)
	if !ok {
		return "", false
	}
	return strings.CutPrefix(body, mark)
}
