// Package cells is layer 1: see shared/doc/01-cells.md.
package cells

import (
	"slices"

	"peloton/api"
)

// Machine is cells, of which so many are given away, and how many operations each worker did.
type Machine struct {
	given []int64 // the cells that are given away; those that are left lie behind its length, untouched
	size  int     // all cells
	steps []int   // of each caller, the driver last
}

// look tells what is wrong with a number that is handed in.
type look func(n int) api.Errno

// New is a machine of so many cells, for workers 0 to workers (that one is the driver).
func New(size, workers int) (*Machine, api.Errno) {
	if size < 1 || size > api.MaxCells || workers < 1 || workers > api.MaxWorkers {
		return nil, api.ErrRange
	}
	return &Machine{given: make([]int64, size)[:0:size], size: size, steps: make([]int, workers+1)}, api.OK
}

// caller looks at who calls. A nil machine has no callers, so that is told here, ahead of all else.
func (m *Machine) caller(w int) api.Errno {
	if m == nil {
		return api.ErrNil
	}
	if w < 0 || w >= len(m.steps) {
		return api.ErrRange
	}
	return api.OK
}

// cell looks at a cell that an operation is about.
func (m *Machine) cell(at int) api.Errno {
	if at < 0 || at >= len(m.given) {
		return api.ErrRange
	}
	return api.OK
}

// room looks at how many cells are asked for.
func (m *Machine) room(n int) api.Errno {
	if n < 1 {
		return api.ErrRange
	}
	if n > m.size-len(m.given) { // no sum, which might go round
		return api.ErrArena
	}
	return api.OK
}

// begin looks at who calls, then at what the operation is about; only an operation that may be done is a step.
func (m *Machine) begin(w int, who look, n int, what look) api.Errno {
	if e := who(w); e != api.OK {
		return e
	}
	if e := what(n); e != api.OK {
		return e
	}
	m.steps[w]++
	return api.OK
}

// Load is a cell's number.
func (m *Machine) Load(w, at int) (int64, api.Errno) {
	if e := m.begin(w, m.caller, at, m.cell); e != api.OK {
		return 0, e
	}
	return m.given[at], api.OK
}

// Store lets a cell have a number.
func (m *Machine) Store(w, at int, x int64) api.Errno {
	if e := m.begin(w, m.caller, at, m.cell); e != api.OK {
		return e
	}
	m.given[at] = x
	return api.OK
}

// CAS lets a cell have a number, if it has another one; whether it had.
func (m *Machine) CAS(w, at int, old, x int64) (bool, api.Errno) {
	if e := m.begin(w, m.caller, at, m.cell); e != api.OK {
		return false, e
	}
	if m.given[at] != old {
		return false, api.OK
	}
	m.given[at] = x
	return true, api.OK
}

// Add adds to a cell; what it was.
func (m *Machine) Add(w, at int, by int64) (int64, api.Errno) {
	if e := m.begin(w, m.caller, at, m.cell); e != api.OK {
		return 0, e
	}
	// Deferred, so that the answer is read ahead of it.
	defer func() { m.given[at] += by }()
	return m.given[at], api.OK
}

// Alloc gives so many cells away, side by side; the first one.
func (m *Machine) Alloc(w, n int) (int, api.Errno) {
	if e := m.begin(w, m.caller, n, m.room); e != api.OK {
		return 0, e
	}
	first := len(m.given)
	// Nothing writes behind the length, so what it grows by is still 0.
	m.given = m.given[: first+n : m.size]
	return first, api.OK
}

// Steps is how many operations a worker did.
func (m *Machine) Steps(w int) int {
	if m.caller(w) != api.OK {
		return 0
	}
	return m.steps[w]
}

// Used is how many cells are given away.
func (m *Machine) Used() int {
	if m == nil {
		return 0
	}
	return len(m.given)
}

// Peek is a cell's number, without an operation.
func (m *Machine) Peek(at int) int64 {
	if m == nil || m.cell(at) != api.OK {
		return 0
	}
	return m.given[at]
}

// Clone is a machine of its own, the same.
func (m *Machine) Clone() *Machine {
	if m == nil {
		return nil
	}
	all := make([]int64, m.size)
	copy(all, m.given)
	return &Machine{given: all[:len(m.given):m.size], size: m.size, steps: slices.Clone(m.steps)}
}

// Same tells whether two machines have the same cells, and steps.
func Same(m, n *Machine) bool {
	if m == nil || n == nil {
		return m == nil && n == nil
	}
	return m.size == n.size && slices.Equal(m.given, n.given) && slices.Equal(m.steps, n.steps)
}
