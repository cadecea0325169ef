package deque

import (
	"peloton/api"
	"peloton/cells"
)

// pop takes what is at the bottom.
type pop struct {
	common
	won  bool // the last one, which thieves may take, too
	next func(p *pop, m *cells.Machine, w int) api.Errno
}

// Pop takes what is at the bottom; the owner's.
func (d Deque) Pop() *Op {
	return &Op{&pop{common: common{d: d}, next: (*pop).seeBottom}}
}

func (p *pop) do(m *cells.Machine, w int) api.Errno { return p.next(p, m, w) }

func (p *pop) seeBottom(m *cells.Machine, w int) api.Errno {
	p.next = (*pop).seeRing
	return p.loadBottom(m, w)
}

func (p *pop) seeRing(m *cells.Machine, w int) api.Errno {
	p.next = (*pop).lower
	return p.loadRing(m, w)
}

// lower takes the last place away from thieves that look from now on; those that looked ahead of it are seen by the top.
func (p *pop) lower(m *cells.Machine, w int) api.Errno {
	p.next = (*pop).seeTop
	return m.Store(w, p.d.bottom(), p.b-1)
}

func (p *pop) seeTop(m *cells.Machine, w int) api.Errno {
	p.next = (*pop).take
	e := p.loadTop(m, w)
	if p.t > p.b-1 {
		p.next = (*pop).raise
	}
	return e
}

func (p *pop) take(m *cells.Machine, w int) (e api.Errno) {
	p.next = (*pop).race
	p.got, e = m.Load(w, p.r.Place(p.b-1))
	if p.t < p.b-1 {
		p.how = Done
	}
	return e
}

func (p *pop) race(m *cells.Machine, w int) (e api.Errno) {
	p.next = (*pop).raise
	p.won, e = m.CAS(w, p.d.top(), p.t, p.t+1)
	return e
}

// raise lets the bottom be what it was: there was nothing, or the top has gone on to it.
func (p *pop) raise(m *cells.Machine, w int) api.Errno {
	p.how = Empty
	if p.won {
		p.how = Done
	}
	return m.Store(w, p.d.bottom(), p.b)
}
