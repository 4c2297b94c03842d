package index

import (
	"iter"
	"slices"
)

// ordered is what a row can have: things of one order, each of which ends.
type ordered[T any] interface {
	compare(T) int
	until() int
}

// block is neighbours of a row, with the greatest of their ends, so that it need not be looked into for what is later.
type block[T ordered[T]] struct {
	things []T
	end    int
}

// row is things in their order, no two alike, in blocks: none is empty or has more than twice the width, any two neighbours have more than the width.
type row[T ordered[T]] struct {
	width  int
	blocks []block[T]
}

// place is a thing's block, and its place there.
type place struct{ block, thing int }

func blockOf[T ordered[T]](l []T) block[T] {
	b := block[T]{things: l}
	for _, t := range l {
		b.end = max(b.end, t.until())
	}
	return b
}

// from is the blocks from one of them on.
func (r *row[T]) from(first int) iter.Seq[block[T]] {
	return func(yield func(block[T]) bool) {
		for _, b := range r.blocks[first:] {
			if !yield(b) {
				return
			}
		}
	}
}

// holder is the one block in which a thing can be: the last one that does not begin behind it, or the first of all.
func (r *row[T]) holder(t T) int {
	begins := func(b block[T], t T) int { return b.things[0].compare(t) }
	n, there := slices.BinarySearchFunc(r.blocks, t, begins)
	if there {
		return n
	}
	return max(n-1, 0)
}

// find is where a thing is, or where it would be, and whether it is there.
func (r *row[T]) find(t T) (place, bool) {
	if len(r.blocks) == 0 {
		return place{}, false
	}
	n := r.holder(t)
	i, there := slices.BinarySearchFunc(r.blocks[n].things, t, T.compare)
	return place{n, i}, there
}

func (r *row[T]) at(p place) T {
	return r.blocks[p.block].things[p.thing]
}

// change lays another thing that stands at the same place of the order.
func (r *row[T]) change(p place, t T) {
	l := r.blocks[p.block].things
	l[p.thing] = t
	r.blocks[p.block] = blockOf(l)
}

// insert lays a thing at the place that find tells.
func (r *row[T]) insert(p place, t T) {
	if len(r.blocks) == 0 {
		r.blocks = append(r.blocks, blockOf([]T{t}))
		return
	}
	l := slices.Insert(r.blocks[p.block].things, p.thing, t)
	if len(l) <= 2*r.width {
		r.blocks[p.block] = blockOf(l)
		return
	}
	ahead, behind := slices.Clone(l[:r.width]), slices.Clone(l[r.width:])
	r.blocks = slices.Replace(r.blocks, p.block, p.block+1, blockOf(ahead), blockOf(behind))
}

func (r *row[T]) remove(p place) {
	l := slices.Delete(r.blocks[p.block].things, p.thing, p.thing+1)
	if len(l) == 0 { // the blocks beside one of a single thing have the width at least, each: they stay apart
		r.blocks = slices.Delete(r.blocks, p.block, p.block+1)
		return
	}
	r.blocks[p.block] = blockOf(l)
	r.join(p.block)
	r.join(p.block - 1)
}

// join makes one block of two neighbours, if they have together the width or less.
func (r *row[T]) join(n int) {
	if n < 0 || n+1 >= len(r.blocks) {
		return
	}
	a, b := r.blocks[n].things, r.blocks[n+1].things
	if len(a)+len(b) <= r.width {
		r.blocks = slices.Replace(r.blocks, n, n+2, blockOf(slices.Concat(a, b)))
	}
}
