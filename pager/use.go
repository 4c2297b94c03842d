package pager

import "memoir/api"

const mapPage = 0

// Alloc takes a free page into use.
func (p *Pager) Alloc() (int, api.Errno) {
	if !p.given() {
		return 0, api.ErrNil
	}
	m := p.useMap()
	for page := range p.pages {
		if !m.uses(page) {
			m.take(page)
			p.changed[mapPage], p.changed[page] = m, content{}
			return page, api.OK
		}
	}
	return 0, api.ErrFull
}

// Free makes a page free.
func (p *Pager) Free(page int) api.Errno {
	if e := p.place(page); e != api.OK {
		return e
	}
	if page == mapPage {
		return api.ErrArg
	}
	m := p.useMap()
	if !m.uses(page) {
		return api.ErrState
	}
	m.give(page)
	p.changed[mapPage] = m
	return api.OK
}

// IsFree tells whether a page is free.
func (p *Pager) IsFree(page int) bool {
	if p.place(page) != api.OK {
		return false
	}
	m := p.useMap()
	return !m.uses(page)
}

// Frees is how many pages are free.
func (p *Pager) Frees() int {
	if !p.given() {
		return 0
	}
	m := p.useMap()
	n := 0
	for page := range p.pages {
		if !m.uses(page) {
			n++
		}
	}
	return n
}

// useMap is what page 0 tells: there is always such a page, so that has no error.
func (p *Pager) useMap() content {
	s, _ := p.Read(mapPage)
	return contentOf(s)
}

func (c *content) uses(page int) bool {
	return page == mapPage || c[page/8]>>(page%8)&1 == 1
}

func (c *content) take(page int) {
	c[page/8] |= 1 << (page % 8)
}

func (c *content) give(page int) {
	c[page/8] &^= 1 << (page % 8)
}
