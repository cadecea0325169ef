package cells_test

import (
	"math"
	"testing"

	"peloton/api"
	"peloton/cells"
)

func machine(t *testing.T, size, workers int) *cells.Machine {
	t.Helper()
	m, e := cells.New(size, workers)
	if m == nil || e != api.OK {
		t.Fatalf("New(%d, %d): %v, %v", size, workers, m, e)
	}
	return m
}

// given is a machine of which the driver gave n cells away.
func given(t *testing.T, size, workers, n int) *cells.Machine {
	t.Helper()
	m := machine(t, size, workers)
	if at, e := m.Alloc(workers, n); at != 0 || e != api.OK {
		t.Fatalf("Alloc(%d, %d): %d, %v", workers, n, at, e)
	}
	return m
}

func TestP11New(t *testing.T) {
	for _, c := range []struct {
		size, workers int
		e             api.Errno
	}{
		{1, 1, api.OK},
		{8, 2, api.OK},
		{api.MaxCells, api.MaxWorkers, api.OK},
		{api.MaxCells, 1, api.OK},
		{1, api.MaxWorkers, api.OK},
		{0, 1, api.ErrRange},
		{-1, 1, api.ErrRange},
		{api.MaxCells + 1, 1, api.ErrRange},
		{1, 0, api.ErrRange},
		{1, -1, api.ErrRange},
		{1, api.MaxWorkers + 1, api.ErrRange},
		{0, 0, api.ErrRange},
		{math.MinInt, 1, api.ErrRange},
		{math.MaxInt, 1, api.ErrRange},
		{1, math.MinInt, api.ErrRange},
		{1, math.MaxInt, api.ErrRange},
	} {
		m, e := cells.New(c.size, c.workers)
		if e != c.e || (m != nil) != (e == api.OK) {
			t.Errorf("New(%d, %d): %v, %v", c.size, c.workers, m != nil, e)
		}
		if m == nil {
			continue
		}
		if m.Used() != 0 || m.Peek(0) != 0 {
			t.Errorf("New(%d, %d): %d cells are given away", c.size, c.workers, m.Used())
		}
		for w := range c.workers + 2 {
			if m.Steps(w) != 0 {
				t.Errorf("New(%d, %d): Steps(%d) is %d", c.size, c.workers, w, m.Steps(w))
			}
		}
	}
}

func TestP11Alloc(t *testing.T) {
	m := machine(t, 6, 2)
	for i, c := range []struct {
		w, n, at, used int
		e              api.Errno
	}{
		{0, 1, 0, 1, api.OK},
		{-1, 1, 0, 1, api.ErrRange},
		{3, 1, 0, 1, api.ErrRange},
		{math.MinInt, 1, 0, 1, api.ErrRange},
		{math.MaxInt, 1, 0, 1, api.ErrRange},
		{0, 0, 0, 1, api.ErrRange},
		{0, -1, 0, 1, api.ErrRange},
		{0, math.MinInt, 0, 1, api.ErrRange},
		{3, 7, 0, 1, api.ErrRange}, // ahead of ErrArena
		{0, 6, 0, 1, api.ErrArena},
		{0, math.MaxInt, 0, 1, api.ErrArena},
		{2, 2, 1, 3, api.OK},
		{1, 4, 0, 3, api.ErrArena},
		{1, 3, 3, 6, api.OK}, // just those that are left
		{1, 1, 0, 6, api.ErrArena},
		{1, 0, 0, 6, api.ErrRange},
	} {
		at, e := m.Alloc(c.w, c.n)
		if at != c.at || e != c.e || m.Used() != c.used {
			t.Errorf("%d: Alloc(%d, %d): %d, %v, of which %d are used", i, c.w, c.n, at, e, m.Used())
		}
	}
	for w, steps := range []int{1, 1, 1} {
		if m.Steps(w) != steps {
			t.Errorf("Steps(%d) is %d", w, m.Steps(w))
		}
	}
}

func TestP11AllocAll(t *testing.T) {
	m := given(t, api.MaxCells, api.MaxWorkers, api.MaxCells)
	if e := m.Store(0, api.MaxCells-1, 7); e != api.OK || m.Peek(api.MaxCells-1) != 7 {
		t.Error(e)
	}
	if _, e := m.Alloc(0, 1); e != api.ErrArena {
		t.Error(e)
	}
}

func TestP11AllocIsZero(t *testing.T) {
	m := machine(t, 4, 1)
	for at := range 4 {
		if _, e := m.Alloc(0, 1); e != api.OK || m.Peek(at) != 0 {
			t.Error(at, e, m.Peek(at))
		}
		for k := range 5 { // of those that are not given away yet, none takes a number
			m.Store(0, k, int64(k+1))
			m.Add(0, k, 1)
			m.CAS(0, k, 0, 9)
		}
	}
}

func TestP12LoadStore(t *testing.T) {
	m := given(t, 4, 2, 3)
	for i, x := range []int64{1, -1, math.MaxInt64, math.MinInt64, 0} {
		w, at := i%3, i%3
		if e := m.Store(w, at, x); e != api.OK {
			t.Error(w, at, e)
		}
		if got, e := m.Load(2-w, at); got != x || e != api.OK {
			t.Error(w, at, got, e)
		}
	}
	m.Store(0, 0, 5)
	m.Store(0, 2, 6)
	m.Store(0, 1, 7)
	if m.Peek(0) != 5 || m.Peek(1) != 7 || m.Peek(2) != 6 {
		t.Error(m.Peek(0), m.Peek(1), m.Peek(2))
	}
}

func TestP12CAS(t *testing.T) {
	m := given(t, 2, 2, 2)
	for i, c := range []struct {
		w      int
		old, x int64
		is     bool
		now    int64
	}{
		{0, 1, 5, false, 0},
		{1, 0, 5, true, 5},
		{2, 5, 5, true, 5},
		{0, 0, 6, false, 5},
		{0, 5, math.MinInt64, true, math.MinInt64},
		{1, math.MaxInt64, 1, false, math.MinInt64},
		{1, math.MinInt64, math.MaxInt64, true, math.MaxInt64},
	} {
		is, e := m.CAS(c.w, 1, c.old, c.x)
		if is != c.is || e != api.OK || m.Peek(1) != c.now || m.Peek(0) != 0 {
			t.Errorf("%d: CAS(%d, 1, %d, %d): %v, %v, then %d", i, c.w, c.old, c.x, is, e, m.Peek(1))
		}
	}
}

func TestP12Add(t *testing.T) {
	m := given(t, 2, 1, 2)
	for i, c := range []struct{ by, was, now int64 }{
		{5, 0, 5},
		{-7, 5, -2},
		{0, -2, -2},
		{2, -2, 0},
		{math.MaxInt64, 0, math.MaxInt64},
		{1, math.MaxInt64, math.MinInt64},
		{-1, math.MinInt64, math.MaxInt64},
		{math.MinInt64, math.MaxInt64, -1},
		{math.MinInt64, -1, math.MaxInt64},
	} {
		was, e := m.Add(i%2, 0, c.by)
		if was != c.was || e != api.OK || m.Peek(0) != c.now || m.Peek(1) != 0 {
			t.Errorf("%d: Add(0, %d): %d, %v, then %d", i, c.by, was, e, m.Peek(0))
		}
	}
}

// refused lets each operation on a cell be done, and holds it against an error and zero values.
func refused(t *testing.T, m *cells.Machine, w, at int, want api.Errno) {
	t.Helper()
	if x, e := m.Load(w, at); x != 0 || e != want {
		t.Errorf("Load(%d, %d): %d, %v", w, at, x, e)
	}
	if e := m.Store(w, at, 4); e != want {
		t.Errorf("Store(%d, %d): %v", w, at, e)
	}
	for _, old := range []int64{0, 3} {
		if is, e := m.CAS(w, at, old, 4); is || e != want {
			t.Errorf("CAS(%d, %d): %v, %v", w, at, is, e)
		}
	}
	if was, e := m.Add(w, at, 4); was != 0 || e != want {
		t.Errorf("Add(%d, %d): %d, %v", w, at, was, e)
	}
}

func TestP12Errors(t *testing.T) {
	m := given(t, 4, 2, 2)
	for at := range 2 {
		m.Store(0, at, 3)
	}
	before := m.Clone()
	for _, c := range [][2]int{
		{-1, 0}, {3, 0}, {math.MinInt, 0}, {math.MaxInt, 0},
		{0, -1}, {0, 2}, {0, 3}, {0, 4}, {2, 2}, {0, math.MinInt}, {0, math.MaxInt},
		{-1, -1}, {3, 2},
	} {
		refused(t, m, c[0], c[1], api.ErrRange)
	}
	if !cells.Same(m, before) {
		t.Error("an error changed something")
	}
}

func TestP13Example(t *testing.T) {
	m := machine(t, 8, 2)
	if at, e := m.Alloc(0, 3); at != 0 || e != api.OK {
		t.Error(at, e)
	}
	if at, e := m.Alloc(2, 2); at != 3 || e != api.OK {
		t.Error(at, e)
	}
	if was, e := m.Add(1, 4, 5); was != 0 || e != api.OK {
		t.Error(was, e)
	}
	if is, e := m.CAS(0, 4, 5, 9); !is || e != api.OK {
		t.Error(is, e)
	}
	if x, e := m.Load(1, 4); x != 9 || e != api.OK {
		t.Error(x, e)
	}
	if m.Steps(0) != 2 || m.Steps(1) != 2 || m.Steps(2) != 1 || m.Used() != 5 {
		t.Error(m.Steps(0), m.Steps(1), m.Steps(2), m.Used())
	}
}

func TestP13Peek(t *testing.T) {
	m := given(t, 4, 1, 2)
	m.Store(0, 0, 8)
	m.Store(0, 1, -9)
	before := m.Clone()
	for _, c := range []struct {
		at int
		x  int64
	}{{0, 8}, {1, -9}, {2, 0}, {3, 0}, {4, 0}, {-1, 0}, {math.MinInt, 0}, {math.MaxInt, 0}} {
		if x := m.Peek(c.at); x != c.x {
			t.Errorf("Peek(%d) is %d", c.at, x)
		}
	}
	for _, w := range []int{-1, 2, 3, math.MinInt, math.MaxInt} {
		if m.Steps(w) != 0 {
			t.Errorf("Steps(%d) is %d", w, m.Steps(w))
		}
	}
	if m.Used() != 2 || !cells.Same(m, before) {
		t.Error("a look changed something")
	}
}

func TestP13Clone(t *testing.T) {
	m := given(t, 5, 2, 2)
	m.Store(0, 1, 7)
	c := m.Clone()
	if c == m || !cells.Same(m, c) || !cells.Same(c, m) {
		t.Fatal("a clone is not the same")
	}
	c.Store(1, 0, 3)
	if m.Peek(0) != 0 || m.Steps(1) != 0 {
		t.Error("what a clone does is seen", m.Peek(0), m.Steps(1))
	}
	m.Store(1, 0, 4)
	if c.Peek(0) != 3 || c.Steps(1) != 1 {
		t.Error("a clone sees what is done", c.Peek(0), c.Steps(1))
	}
	// Both go on giving away: each has as many cells left, of its own, all 0.
	for i, x := range []*cells.Machine{m, c} {
		if at, e := x.Alloc(0, 3); at != 2 || e != api.OK || x.Peek(2) != 0 || x.Peek(4) != 0 {
			t.Error(i, at, e, x.Peek(2), x.Peek(4))
		}
		x.Store(0, 4, 6)
		if _, e := x.Alloc(0, 1); e != api.ErrArena {
			t.Error(i, e)
		}
	}
}

func TestP13Same(t *testing.T) {
	made := func(size, workers int, do func(*cells.Machine)) *cells.Machine {
		m := given(t, size, workers, 2)
		do(m)
		return m
	}
	nothing := func(*cells.Machine) {}
	stored := func(w int, x int64) func(*cells.Machine) {
		return func(m *cells.Machine) { m.Store(w, 0, x) }
	}
	for i, c := range []struct {
		m, n *cells.Machine
		same bool
	}{
		{made(4, 2, nothing), made(4, 2, nothing), true},
		{made(4, 2, nothing), made(5, 2, nothing), false},
		{made(4, 2, stored(0, 1)), made(4, 2, stored(0, 1)), true},
		{made(4, 2, stored(0, 1)), made(4, 2, stored(0, 2)), false},
		{made(4, 2, stored(0, 0)), made(4, 2, stored(1, 0)), false},
		{made(4, 2, stored(0, 0)), made(4, 2, nothing), false},
		{machine(t, 4, 2), machine(t, 4, 2), true},
		{machine(t, 4, 2), machine(t, 4, 3), false},
		{machine(t, 4, 2), machine(t, 3, 2), false},
		{machine(t, 4, 2), nil, false},
		{nil, machine(t, 4, 2), false},
		{nil, nil, true},
	} {
		if cells.Same(c.m, c.n) != c.same || cells.Same(c.n, c.m) != c.same {
			t.Errorf("%d: Same is not %v", i, c.same)
		}
	}
	a, b := machine(t, 4, 1), machine(t, 4, 1)
	a.Alloc(0, 1)
	b.Alloc(0, 2) // as many steps, and all numbers 0
	if cells.Same(a, b) || cells.Same(b, a) {
		t.Error("the same, though not as many cells are given away")
	}
	if !cells.Same(a, a) {
		t.Error("not the same as itself")
	}
}

func TestP13Nil(t *testing.T) {
	var m *cells.Machine
	for _, w := range []int{-1, 0, 1, 99} {
		for _, at := range []int{-1, 0, 1} {
			refused(t, m, w, at, api.ErrNil)
			if got, e := m.Alloc(w, at); got != 0 || e != api.ErrNil {
				t.Errorf("Alloc(%d, %d): %d, %v", w, at, got, e)
			}
			if m.Steps(w) != 0 || m.Used() != 0 || m.Peek(at) != 0 {
				t.Error(m.Steps(w), m.Used(), m.Peek(at))
			}
		}
	}
	if m.Clone() != nil {
		t.Error("a clone of nothing")
	}
}

func TestP14LeftAsTheyAre(t *testing.T) {
	m := given(t, 4, 2, 3)
	for at := range 3 {
		m.Store(0, at, int64(at)+10)
	}
	numbers := func() [3]int64 { return [3]int64{m.Peek(0), m.Peek(1), m.Peek(2)} }
	before := numbers()
	m.Load(1, 1)
	m.CAS(1, 2, 10, 99)
	m.Load(9, 1)
	m.Store(0, 3, 99)
	m.CAS(0, -1, 0, 99)
	m.Add(-1, 0, 99)
	m.Alloc(0, 2)
	if numbers() != before || m.Used() != 3 {
		t.Error(numbers(), before, m.Used())
	}
}

func TestP14OneStep(t *testing.T) {
	m := given(t, 64, 3, 2)
	for w := range 4 {
		for i, do := range []func(){
			func() { m.Load(w, 0) },
			func() { m.Store(w, 0, 3) },
			func() { m.CAS(w, 0, 3, 4) },
			func() { m.CAS(w, 0, 3, 5) },
			func() { m.Add(w, 1, 6) },
			func() { m.Alloc(w, 2) },
		} {
			var want [6]int
			for k := range want {
				want[k] = m.Steps(k - 1)
			}
			want[w+1]++
			do()
			for k := range want {
				if m.Steps(k-1) != want[k] {
					t.Errorf("operation %d of %d: Steps(%d) is %d, not %d", i, w, k-1, m.Steps(k-1), want[k])
				}
			}
		}
	}
}

func TestP14AddedAndTakenAway(t *testing.T) {
	by := []int64{1, -5, math.MaxInt64, math.MinInt64}
	for _, order := range [][]int{{0, 1, 2, 3}, {3, 2, 1, 0}, {2, 0, 3, 1}} {
		m := given(t, 1, 2, 1)
		m.Store(0, 0, 42)
		for _, k := range by {
			m.Add(0, 0, k)
		}
		for _, k := range order {
			m.Add(1, 0, -by[k])
		}
		if m.Peek(0) != 42 {
			t.Error(order, m.Peek(0))
		}
	}
}

func TestP14OneSucceeds(t *testing.T) {
	for first := range api.MaxWorkers + 1 {
		m := given(t, 1, api.MaxWorkers, 1)
		won := -1
		for k := range api.MaxWorkers + 1 {
			w := (first + k) % (api.MaxWorkers + 1)
			is, e := m.CAS(w, 0, 0, int64(w)+1)
			if e != api.OK || is && won >= 0 {
				t.Error(first, w, won, e)
			}
			if is {
				won = w
			}
		}
		if won != first || m.Peek(0) != int64(won)+1 {
			t.Error(first, won, m.Peek(0))
		}
	}
}

// model is a machine told another way: cells that are given away by a map, and steps by a map.
type model struct {
	size, workers int
	cell          map[int]int64
	steps         map[int]int
}

// operate is what a call should answer, as one number, and its error; op is 0 to 4: Load, Store, CAS, Add, Alloc.
func (m *model) operate(op, w, at int, x, y int64) (int64, api.Errno) {
	was, there := m.cell[at]
	switch {
	case w < 0 || w > m.workers || op < 4 && !there || op == 4 && at < 1:
		return 0, api.ErrRange
	case op == 4 && len(m.cell)+at > m.size:
		return 0, api.ErrArena
	}
	m.steps[w]++
	switch op {
	case 1:
		m.cell[at] = x
		return 0, api.OK
	case 2:
		if was != x {
			return 0, api.OK
		}
		m.cell[at] = y
		return 1, api.OK
	case 3:
		m.cell[at] = was + x
	case 4:
		was = int64(len(m.cell))
		for range at {
			m.cell[len(m.cell)] = 0
		}
	}
	return was, api.OK
}

func operate(m *cells.Machine, op, w, at int, x, y int64) (int64, api.Errno) {
	switch op {
	case 0:
		return m.Load(w, at)
	case 1:
		return 0, m.Store(w, at, x)
	case 2:
		is, e := m.CAS(w, at, x, y)
		if is {
			return 1, e
		}
		return 0, e
	case 3:
		return m.Add(w, at, x)
	}
	first, e := m.Alloc(w, at)
	return int64(first), e
}

// TestLongRuns holds rows of calls, right and wrong ones, against the model.
func TestLongRuns(t *testing.T) {
	seed := uint32(1)
	upTo := func(n int) int { // a row of numbers that is the same each time
		seed = seed*1664525 + 1013904223
		return int(seed>>8) % n
	}
	for run := range 200 {
		size, workers := 1+upTo(12), 1+upTo(api.MaxWorkers)
		m := machine(t, size, workers)
		o := &model{size, workers, map[int]int64{}, map[int]int{}}
		for i := range 200 {
			op, w, at := upTo(5), upTo(workers+3)-1, upTo(size+3)-1
			if op == 4 {
				at = upTo(5) - 1
			}
			x, y := int64(upTo(3)), int64(upTo(3))
			got, e := operate(m, op, w, at, x, y)
			want, f := o.operate(op, w, at, x, y)
			if got != want || e != f || m.Used() != len(o.cell) || m.Steps(w) != o.steps[w] {
				t.Fatalf("run %d, call %d: operation %d of (%d, %d, %d, %d): %d, %v, not %d, %v", run, i, op, w, at, x, y, got, e, want, f)
			}
		}
		for at := -1; at <= size; at++ {
			if m.Peek(at) != o.cell[at] {
				t.Fatalf("run %d: Peek(%d) is %d, not %d", run, at, m.Peek(at), o.cell[at])
			}
		}
		for w := -1; w <= workers+1; w++ {
			if m.Steps(w) != o.steps[w] {
				t.Fatalf("run %d: Steps(%d) is %d, not %d", run, w, m.Steps(w), o.steps[w])
			}
		}
	}
}
