package heap

import (
	"slices"

	"memoir/api"
)

const (
	headSize = 3
	partSize = api.SectorSize - headSize
	none     = 0 // the number of no record's page
	rootPage = 1
	rootMark = "R"
)

// page is a page of a record: its number, the next one's, and its part of the record.
type page struct {
	at, next int
	part     []byte
}

// parts cuts a record: an empty one has one part too. No part has room behind it: that is the next one's.
func parts(s string) [][]byte {
	left := []byte(s)
	var l [][]byte
	for len(left) > partSize {
		l = append(l, left[:partSize:partSize])
		left = left[partSize:]
	}
	return append(l, left[:len(left):len(left)])
}

// row is the pages of a record, in order.
func (h *Heap) row(id int) ([]page, api.Errno) {
	if !h.given() {
		return nil, api.ErrNil
	}
	if !h.holds(id) {
		return nil, api.ErrNone
	}
	var row []page
	for at := id; at != none; {
		p, ok := h.page(at)
		if !ok || slices.ContainsFunc(row, func(been page) bool { return been.at == at }) {
			return nil, api.ErrForm
		}
		row = append(row, p)
		at = p.next
	}
	return row, api.OK
}

// page reads a page, if a record can have it.
func (h *Heap) page(at int) (page, bool) {
	s, e := h.pager.Read(at)
	if e != api.OK || !h.holds(at) {
		return page{}, false
	}
	b := []byte(s)
	next, end := numberOf(b), headSize+int(b[headSize-1])
	if end > len(b) || next != none && end < len(b) {
		return page{}, false
	}
	return page{at: at, next: next, part: b[headSize:end:end]}, true
}

func (h *Heap) lay(p page) {
	h.pager.Write(p.at, number(p.next)+string([]byte{byte(len(p.part))})+string(p.part))
}

// holds tells whether a page is in use, and can be a record's.
func (h *Heap) holds(at int) bool {
	return at > rootPage && at < h.pager.Len() && !h.pager.IsFree(at)
}

// root is the id of the root's record.
func (h *Heap) root() int {
	s, e := h.pager.Read(rootPage)
	if e != api.OK {
		return none
	}
	return numberOf([]byte(s[len(rootMark):]))
}

func (h *Heap) setRoot(id int) {
	h.pager.Write(rootPage, rootMark+number(id))
}

// number is a page's number as two bytes.
func number(n int) string {
	return string([]byte{byte(n >> 8), byte(n)})
}

func numberOf(b []byte) int {
	return int(b[0])<<8 | int(b[1])
}
