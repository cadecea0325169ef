package deque

import (
	"peloton/api"
	"peloton/cells"
)

// steal takes what is at the top.
type steal struct {
	common
	next func(s *steal, m *cells.Machine, w int) api.Errno
}

// Steal takes what is at the top; a thief's.
func (d Deque) Steal() *Op {
	return &Op{&steal{common: common{d: d}, next: (*steal).seeTop}}
}

func (s *steal) do(m *cells.Machine, w int) api.Errno { return s.next(s, m, w) }

func (s *steal) seeTop(m *cells.Machine, w int) api.Errno {
	s.next = (*steal).seeBottom
	return s.loadTop(m, w)
}

func (s *steal) seeBottom(m *cells.Machine, w int) api.Errno {
	s.next = (*steal).seeRing
	e := s.loadBottom(m, w)
	if s.t >= s.b {
		s.how = Empty
	}
	return e
}

func (s *steal) seeRing(m *cells.Machine, w int) api.Errno {
	s.next = (*steal).see
	return s.loadRing(m, w)
}

func (s *steal) see(m *cells.Machine, w int) (e api.Errno) {
	s.how, s.next = Seen, (*steal).take
	s.got, e = m.Load(w, s.r.Place(s.t))
	return e
}

// take is by CAS: whoever took what was seen has moved the top.
func (s *steal) take(m *cells.Machine, w int) api.Errno {
	is, e := m.CAS(w, s.d.top(), s.t, s.t+1)
	s.how = Late
	if is {
		s.how = Done
	}
	return e
}
