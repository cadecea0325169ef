package deque

import (
	"peloton/api"
	"peloton/cells"
	"peloton/ring"
)

// push puts x in at the bottom.
type push struct {
	common
	x    int64
	wide ring.Ring  // what the ring grows to
	copy *ring.Copy // of all places, into wide
	next func(p *push, m *cells.Machine, w int) api.Errno
}

// Push puts something in at the bottom; the owner's.
func (d Deque) Push(x int64) *Op {
	return &Op{&push{common: common{d: d}, x: x, next: (*push).seeBottom}}
}

func (p *push) do(m *cells.Machine, w int) api.Errno { return p.next(p, m, w) }

func (p *push) seeBottom(m *cells.Machine, w int) api.Errno {
	p.next = (*push).seeTop
	return p.loadBottom(m, w)
}

func (p *push) seeTop(m *cells.Machine, w int) api.Errno {
	p.next = (*push).seeRing
	return p.loadTop(m, w)
}

// seeRing looks whether there is room, or whether some may be made.
func (p *push) seeRing(m *cells.Machine, w int) api.Errno {
	if e := p.loadRing(m, w); e != api.OK {
		return e
	}
	switch {
	case p.b-p.t < int64(p.r.Size()):
		p.next = (*push).put
	case p.r.Log >= p.d.Most:
		p.how = Full
	default:
		p.next = (*push).grow
	}
	return api.OK
}

func (p *push) grow(m *cells.Machine, w int) (e api.Errno) {
	p.next = (*push).begin
	p.wide, e = ring.New(m, w, p.r.Log+1)
	return e
}

// begin does the copying's first Step. A copying that may not be is refused only here: the new ring's own Step is done.
func (p *push) begin(m *cells.Machine, w int) (e api.Errno) {
	if p.copy, e = p.r.Copy(p.wide, p.t, p.b); e != api.OK {
		return e
	}
	p.next = (*push).move
	return p.move(m, w)
}

func (p *push) move(m *cells.Machine, w int) api.Errno {
	all, e := p.copy.Step(m, w)
	if all {
		p.next = (*push).turn
	}
	return e
}

// turn lets the new ring be the ring. Thieves that loaded the old one still find there what they look for.
func (p *push) turn(m *cells.Machine, w int) api.Errno {
	p.r, p.copy, p.next = p.wide, nil, (*push).put
	return m.Store(w, p.d.word(), p.r.Word())
}

// put lets the place have its number ahead of the bottom, so that no thief sees a place without one.
func (p *push) put(m *cells.Machine, w int) api.Errno {
	p.next = (*push).raise
	return m.Store(w, p.r.Place(p.b), p.x)
}

func (p *push) raise(m *cells.Machine, w int) api.Errno {
	p.how = Done
	return m.Store(w, p.d.bottom(), p.b+1)
}
