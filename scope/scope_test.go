package scope_test

import (
	"math"
	"slices"
	"testing"

	"peloton/api"
	"peloton/cells"
	"peloton/scope"
)

// numbers is a row of numbers that is the same each time.
func numbers() func(n int) int {
	seed := uint32(14)
	return func(n int) int {
		seed = seed*1664525 + 1013904223
		return int(seed>>8) % n
	}
}

// far is numbers that no scope has, and no caller.
var far = []int{math.MinInt, math.MinInt + 1, -1 << 32, -33, -2, -1, 1 << 20, 1 << 32, 1 << 62, math.MaxInt - 1, math.MaxInt}

// fresh is a machine, and a tree in it, ahead of which so many cells are given away.
func fresh(t *testing.T, size, workers, ahead int) (*cells.Machine, *scope.Tree) {
	t.Helper()
	m, e := cells.New(size, workers)
	if e != api.OK {
		t.Fatal(e)
	}
	if ahead > 0 {
		m.Alloc(workers, ahead)
	}
	x, e := scope.New(m, workers)
	if x == nil || e != api.OK {
		t.Fatal(x, e)
	}
	return m, x
}

// opens opens a scope in each of those parents, by the driver.
func opens(t *testing.T, m *cells.Machine, x *scope.Tree, driver int, parents ...int) {
	t.Helper()
	for _, p := range parents {
		n := x.Len()
		if s, e := x.Open(m, driver, p); s != n || e != api.OK {
			t.Fatalf("Open in %d: %d, %v, not %d", p, s, e, n)
		}
	}
}

// example is the tree of the chapter's examples: 1 in the world, 2 in 1, and 3 in the world; scope s has the cells 2s and 2s + 1.
func example(t *testing.T) (*cells.Machine, *scope.Tree) {
	t.Helper()
	m, x := fresh(t, 8, 2, 0)
	opens(t, m, x, 2, 0, 1, 0)
	return m, x
}

// path is a scope and those around it, as a list of parents tells it.
func path(parents []int, s int) []int {
	var l []int
	for ; s >= 0; s = parents[s] {
		l = append(l, s)
	}
	return l
}

// holds looks whether a tree has just those parents, and tells of all pairs what it should.
func holds(t *testing.T, x *scope.Tree, parents []int) {
	t.Helper()
	if x.Len() != len(parents) {
		t.Fatalf("%d scopes, not %d", x.Len(), len(parents))
	}
	for s := range parents {
		l := path(parents, s)
		if x.Parent(s) != parents[s] || x.Nest(s) != len(l)-1 {
			t.Fatalf("scope %d: in %d, and %d are around it, not %v", s, x.Parent(s), x.Nest(s), l[1:])
		}
		for of := range parents {
			if x.Inside(s, of) != slices.Contains(l, of) {
				t.Fatalf("Inside(%d, %d), with %v around: %v", s, of, l, x.Inside(s, of))
			}
		}
	}
}

// strange looks at what a tree tells of numbers that no scope has.
func strange(t *testing.T, x *scope.Tree) {
	t.Helper()
	for _, s := range append([]int{x.Len(), x.Len() + 1}, far...) {
		if x.Parent(s) != -1 || x.Nest(s) != -1 || x.Inside(s, s) || x.Inside(s, 0) || x.Inside(0, s) || x.Inside(x.Len()-1, s) || x.Inside(s, -1) || x.Inside(-1, s) {
			t.Fatalf("%d is a scope of %d", s, x.Len())
		}
	}
}

// --- P14.1

func TestP141Example(t *testing.T) {
	_, x := example(t)
	if x.Nest(2) != 2 || !x.Inside(2, 1) || x.Inside(3, 1) {
		t.Error(x.Nest(2), x.Inside(2, 1), x.Inside(3, 1))
	}
	holds(t, x, []int{-1, 0, 1, 0})
	strange(t, x)
}

func TestP141New(t *testing.T) {
	for w := range 4 {
		m, _ := cells.New(7, 3)
		for range 3 { // trees beside one another, in one machine
			want := m.Clone()
			want.Alloc(w, 2)
			x, e := scope.New(m, w)
			if x == nil || e != api.OK || !cells.Same(m, want) {
				t.Fatalf("New of %d: %v", w, e)
			}
			holds(t, x, []int{-1})
			strange(t, x)
			if asked, live := x.Peek(m, 0); asked || live != 0 {
				t.Error("a new world", asked, live)
			}
		}
		before := m.Clone()
		if x, e := scope.New(m, w); x != nil || e != api.ErrArena || !cells.Same(m, before) {
			t.Error("with one cell left", e)
		}
	}
}

func TestP141NewErrors(t *testing.T) {
	full, _ := fresh(t, 2, 1, 0)
	m, _ := fresh(t, 9, 2, 2)
	most, _ := fresh(t, 9, api.MaxWorkers, 2)
	for i, c := range []struct {
		m *cells.Machine
		w int
		e api.Errno
	}{
		{nil, 0, api.ErrNil}, {nil, -1, api.ErrNil}, {nil, 99, api.ErrNil},
		{m, -1, api.ErrRange}, {m, 3, api.ErrRange}, {m, math.MinInt, api.ErrRange}, {m, math.MaxInt, api.ErrRange},
		{most, api.MaxWorkers + 1, api.ErrRange},
		{full, 0, api.ErrArena}, {full, 1, api.ErrArena}, {full, 2, api.ErrRange},
	} {
		before := c.m.Clone()
		if x, e := scope.New(c.m, c.w); x != nil || e != c.e || !cells.Same(c.m, before) {
			t.Errorf("%d: %v, %v", i, x, e)
		}
	}
	if x, e := scope.New(m, 0); x == nil || e != api.OK || m.Used() != 6 {
		t.Error("what was refused took a cell", e, m.Used())
	}
}

// TestP141Open opens scopes in any that are there, by any caller, and holds the tree against a list of parents.
func TestP141Open(t *testing.T) {
	next := numbers()
	for range 25 {
		m, x := fresh(t, 200, 3, 5)
		parents := []int{-1}
		for len(parents) < 90 {
			w, p, want := next(4), next(len(parents)), m.Clone()
			if next(3) > 0 { // often in one of the newest, so that trees grow high
				p = len(parents) - 1 - next(min(3, len(parents)))
			}
			if x.Nest(p) == api.MaxNest {
				continue
			}
			want.Alloc(w, 2)
			if s, e := x.Open(m, w, p); s != len(parents) || e != api.OK || !cells.Same(m, want) {
				t.Fatalf("Open of %d in %d: %d, %v, not %d", w, p, s, e, len(parents))
			}
			parents = append(parents, p)
		}
		holds(t, x, parents)
		strange(t, x)
	}
}

// TestP141Deep has as many scopes around one another as there may be.
func TestP141Deep(t *testing.T) {
	m, x := fresh(t, 1000, 2, 0)
	parents := []int{-1}
	for s := range api.MaxNest {
		opens(t, m, x, 2, s)
		parents = append(parents, s)
	}
	for _, w := range []int{0, 2, 3, -1} { // ahead of what the machine tells
		before := m.Clone()
		if s, e := x.Open(m, w, api.MaxNest); s != 0 || e != api.ErrDeep || !cells.Same(m, before) {
			t.Errorf("Open of %d in one that has %d around it: %d, %v", w, x.Nest(api.MaxNest), s, e)
		}
	}
	holds(t, x, parents)
	opens(t, m, x, 2, api.MaxNest-1, api.MaxNest-1, 0, api.MaxNest-1)
	parents = append(parents, api.MaxNest-1, api.MaxNest-1, 0, api.MaxNest-1)
	holds(t, x, parents)
	for _, p := range []int{api.MaxNest, api.MaxNest + 1, api.MaxNest + 2, api.MaxNest + 4} {
		if s, e := x.Open(m, 0, p); s != 0 || e != api.ErrDeep {
			t.Error(p, s, e)
		}
	}
	opens(t, m, x, 2, api.MaxNest+3) // it is in the world, however many were opened ahead of it
	holds(t, x, append(parents, api.MaxNest+3))
}

// TestP141DeepFull has no room for one that would be too deep: that is told first.
func TestP141DeepFull(t *testing.T) {
	m, x := fresh(t, 2*(api.MaxNest+1), 1, 0)
	for s := range api.MaxNest {
		opens(t, m, x, 1, s)
	}
	if s, e := x.Open(m, 0, api.MaxNest); s != 0 || e != api.ErrDeep {
		t.Error(s, e)
	}
	if s, e := x.Open(m, 0, api.MaxNest-1); s != 0 || e != api.ErrArena {
		t.Error(s, e)
	}
}

func TestP141OpenErrors(t *testing.T) {
	m, x := example(t) // 8 cells, and all are given away
	free, y := fresh(t, 9, 2, 0)
	one, z := fresh(t, 3, 2, 0) // one cell is left
	none := (*scope.Tree)(nil)
	for i, c := range []struct {
		x         *scope.Tree
		m         *cells.Machine
		w, parent int
		e         api.Errno
	}{
		{none, m, 0, 0, api.ErrNil}, {none, nil, 0, 0, api.ErrNil}, {none, m, -1, -1, api.ErrNil},
		{x, nil, 0, 0, api.ErrNil}, {x, nil, -1, 9, api.ErrNil}, {x, nil, 9, -1, api.ErrNil},
		{x, m, 0, 4, api.ErrNone}, {x, m, 0, -1, api.ErrNone}, {x, m, -1, 5, api.ErrNone}, {x, m, 3, math.MinInt, api.ErrNone}, {x, m, 0, math.MaxInt, api.ErrNone},
		{x, m, 0, 3, api.ErrArena}, {x, m, 2, 0, api.ErrArena}, {x, m, 3, 0, api.ErrRange}, {x, m, -1, 0, api.ErrRange},
		{y, free, 3, 0, api.ErrRange}, {y, free, -1, 0, api.ErrRange}, {y, free, math.MaxInt, 0, api.ErrRange}, {y, free, math.MinInt, 0, api.ErrRange}, {y, free, 0, 1, api.ErrNone},
		{z, one, 0, 0, api.ErrArena},
	} {
		before, n := c.m.Clone(), c.x.Len()
		if s, e := c.x.Open(c.m, c.w, c.parent); s != 0 || e != c.e || !cells.Same(c.m, before) || c.x.Len() != n {
			t.Errorf("%d: %d, %v, not %v", i, s, e, c.e)
		}
	}
	holds(t, x, []int{-1, 0, 1, 0})
	opens(t, free, y, 0, 0, 0)
	holds(t, y, []int{-1, 0, 0})
}

// TestP141Most opens as many as there may be, in the largest machine; the last one has the last cells.
func TestP141Most(t *testing.T) {
	m, x := fresh(t, api.MaxCells, api.MaxWorkers, 0)
	last := api.MaxCells/2 - 1
	for s := range last {
		if got, e := x.Open(m, s%(api.MaxWorkers+1), s/2); got != s+1 || e != api.OK {
			t.Fatal(s, got, e)
		}
	}
	if s, e := x.Open(m, 0, 0); s != 0 || e != api.ErrArena || x.Len() != last+1 {
		t.Error(s, e, x.Len())
	}
	if x.Parent(last) != (last-1)/2 || x.Nest(last) != 19 || !x.Inside(last, 0) || x.Inside(last, last-1) {
		t.Error(x.Parent(last), x.Nest(last))
	}
	if e := x.Enter(m, api.MaxWorkers, last); e != api.OK || m.Peek(api.MaxCells-1) != 1 {
		t.Error(e)
	}
	if first, e := x.Ask(m, 0, last); !first || e != api.OK || m.Peek(api.MaxCells-2) != 1 {
		t.Error(first, e)
	}
	strange(t, x)
}

func TestP141Nil(t *testing.T) {
	var x *scope.Tree
	if x.Len() != 0 {
		t.Error(x.Len())
	}
	for _, s := range append([]int{0, 1}, far...) {
		if x.Parent(s) != -1 || x.Nest(s) != -1 || x.Inside(s, s) || x.Inside(s, 0) || x.Inside(0, s) {
			t.Error("a nil tree", s)
		}
	}
}

// --- P14.2

func TestP142Example(t *testing.T) {
	m, x := example(t)
	for i, want := range []bool{true, false} {
		if first, e := x.Ask(m, 0, 1); first != want || e != api.OK {
			t.Error(i, first, e)
		}
	}
}

// apart is a machine and a tree of four scopes, whose cells have others ahead of them, between and behind them; where each one's cells are.
func apart(t *testing.T) (*cells.Machine, *scope.Tree, []int) {
	t.Helper()
	m, x := fresh(t, 30, api.MaxWorkers, 3)
	at := []int{3}
	for s := range 3 {
		m.Alloc(0, s+1)
		at = append(at, m.Used())
		opens(t, m, x, 1, s/2)
	}
	m.Alloc(0, 1)
	return m, x, at
}

// edges is numbers of cells at the edges.
var edges = []int64{0, 1, 2, -1, -2, 7, math.MaxInt64, math.MinInt64, math.MaxInt64 - 1, math.MinInt64 + 1, 1 << 32}

// done does one of the five calls, and holds its answer against the machine's own operation.
func done(t *testing.T, m *cells.Machine, x *scope.Tree, kind, w, s, at int) {
	t.Helper()
	want := m.Clone()
	var e api.Errno
	same := true
	switch kind {
	case 0:
		want.Add(w, at+1, 1)
		e = x.Enter(m, w, s)
	case 1:
		was, _ := want.Add(w, at+1, -1)
		var last bool
		last, e = x.Leave(m, w, s)
		same = last == (was == 1)
	case 2:
		is, _ := want.Load(w, at+1)
		var n int64
		n, e = x.Live(m, w, s)
		same = n == is
	case 3:
		is, _ := want.CAS(w, at, 0, 1)
		var first bool
		first, e = x.Ask(m, w, s)
		same = first == is
	case 4:
		is, _ := want.Load(w, at)
		var asked bool
		asked, e = x.Asked(m, w, s)
		same = asked == (is != 0)
	}
	if !same || e != api.OK || !cells.Same(m, want) {
		t.Fatalf("call %d of %d, scope %d, whose cells are %d and %d: %v", kind, w, s, m.Peek(at), m.Peek(at+1), e)
	}
}

// TestP142Operations holds each call against the machine's own operation, whatever stands in the cells, and beside them.
func TestP142Operations(t *testing.T) {
	next := numbers()
	m, x, at := apart(t)
	for _, a := range edges {
		for _, b := range edges {
			for c := range m.Used() {
				m.Store(0, c, edges[next(len(edges))])
			}
			for s := range at {
				m.Store(0, at[s], a)
				m.Store(0, at[s]+1, b)
			}
			for range 40 {
				s := next(len(at))
				done(t, m, x, next(5), next(api.MaxWorkers+1), s, at[s])
			}
		}
	}
	holds(t, x, []int{-1, 0, 0, 1})
}

// TestP142Each does each call of each caller in each scope once, with the numbers that they have ordinarily.
func TestP142Each(t *testing.T) {
	for _, live := range []int64{0, 1, 2, 3} {
		for asked := range int64(2) {
			for kind := range 5 {
				for w := range api.MaxWorkers + 1 {
					m, x, at := apart(t)
					for s := range at {
						m.Store(0, at[s], asked)
						m.Store(0, at[s]+1, live)
						done(t, m, x, kind, w, s, at[s])
					}
				}
			}
		}
	}
}

// refused does all five calls, and holds them against an error, and zero values.
func refused(t *testing.T, x *scope.Tree, m *cells.Machine, w, s int, want api.Errno) {
	t.Helper()
	before := m.Clone()
	if e := x.Enter(m, w, s); e != want {
		t.Errorf("Enter(%d, %d): %v, not %v", w, s, e, want)
	}
	if last, e := x.Leave(m, w, s); last || e != want {
		t.Errorf("Leave(%d, %d): %v, %v, not %v", w, s, last, e, want)
	}
	if n, e := x.Live(m, w, s); n != 0 || e != want {
		t.Errorf("Live(%d, %d): %d, %v, not %v", w, s, n, e, want)
	}
	if first, e := x.Ask(m, w, s); first || e != want {
		t.Errorf("Ask(%d, %d): %v, %v, not %v", w, s, first, e, want)
	}
	if is, e := x.Asked(m, w, s); is || e != want {
		t.Errorf("Asked(%d, %d): %v, %v, not %v", w, s, is, e, want)
	}
	if !cells.Same(m, before) {
		t.Errorf("an error changed something: %d, %d", w, s)
	}
}

// TestP142Refused refuses calls, whatever stands in the cells.
func TestP142Refused(t *testing.T) {
	none := (*scope.Tree)(nil)
	for _, stands := range []int64{0, 1, 2} {
		m, x := example(t)
		for c := range 8 {
			m.Store(0, c, stands)
		}
		for _, w := range append([]int{0, 2, 3, 17}, far...) {
			for _, s := range append([]int{0, 1, 3, 4, 5}, far...) {
				refused(t, none, m, w, s, api.ErrNil)
				refused(t, x, nil, w, s, api.ErrNil)
				refused(t, none, nil, w, s, api.ErrNil)
				if s < 0 || s > 3 {
					refused(t, x, m, w, s, api.ErrNone) // whoever calls
				} else if w < 0 || w > 2 {
					refused(t, x, m, w, s, api.ErrRange)
				}
			}
		}
	}
}

func TestP142Peek(t *testing.T) {
	m, x, at := apart(t)
	none := (*scope.Tree)(nil)
	for i, a := range edges {
		for j, b := range edges {
			for s := range at { // of each scope other ones
				m.Store(0, at[s], edges[(i+s)%len(edges)])
				m.Store(0, at[s]+1, edges[(j+2*s)%len(edges)])
			}
			before := m.Clone()
			for s := range at {
				a, b = m.Peek(at[s]), m.Peek(at[s]+1)
				if asked, live := x.Peek(m, s); asked != (a != 0) || live != b {
					t.Fatalf("scope %d, of %d and %d: %v, %d", s, a, b, asked, live)
				}
				if asked, live := x.Peek(nil, s); asked || live != 0 {
					t.Fatal("a nil machine")
				}
				if asked, live := none.Peek(m, s); asked || live != 0 {
					t.Fatal("a nil tree")
				}
			}
			for _, s := range append([]int{4, 5}, far...) {
				if asked, live := x.Peek(m, s); asked || live != 0 {
					t.Fatal("no scope", s)
				}
			}
			if !cells.Same(m, before) {
				t.Fatal("Peek did an operation")
			}
		}
	}
}

// TestP142All does all calls in long rows, some of them refused, and holds each scope against what was done in it.
func TestP142All(t *testing.T) {
	next := numbers()
	for range 30 {
		m, x := fresh(t, 40, 3, 1)
		asked, live := []bool{false}, []int64{0}
		for range 600 {
			w, s := next(5), next(len(asked)+1)
			e := api.OK
			if s == len(asked) {
				e = api.ErrNone
			} else if w == 4 {
				e = api.ErrRange
			}
			ok := e == api.OK
			switch next(7) {
			case 0:
				if got := x.Enter(m, w, s); got != e {
					t.Fatal(got, e)
				}
				if ok {
					live[s]++
				}
			case 1:
				if last, got := x.Leave(m, w, s); got != e || last != (ok && live[s] == 1) {
					t.Fatal(last, got, e)
				}
				if ok {
					live[s]--
				}
			case 2:
				if n, got := x.Live(m, w, s); got != e || ok && n != live[s] || !ok && n != 0 {
					t.Fatal(n, got, e)
				}
			case 3:
				if first, got := x.Ask(m, w, s); got != e || first != (ok && !asked[s]) {
					t.Fatal(first, got, e)
				}
				if ok {
					asked[s] = true
				}
			case 4:
				if is, got := x.Asked(m, w, s); got != e || is != (ok && asked[s]) {
					t.Fatal(is, got, e)
				}
			case 5:
				if is, n := x.Peek(m, s); s < len(asked) && (is != asked[s] || n != live[s]) || s == len(asked) && (is || n != 0) {
					t.Fatal(is, n)
				}
			case 6:
				if ok && x.Nest(s) < api.MaxNest && m.Used() < 39 && next(2) == 0 {
					opens(t, m, x, w, s)
					asked, live = append(asked, false), append(live, 0)
				}
			}
		}
		if len(asked) < 15 {
			t.Error("too few scopes", len(asked))
		}
	}
}

// TestP142Last lets tasks of all callers enter each scope, and leave it in some orders: just the one that leaves last is told so.
func TestP142Last(t *testing.T) {
	next := numbers()
	for n := range 60 {
		m, x, at := apart(t)
		for s := range at {
			for range n + 1 {
				if e := x.Enter(m, next(api.MaxWorkers+1), s); e != api.OK {
					t.Fatal(e)
				}
			}
		}
		left := make([]int, len(at))
		for range (n + 1) * len(at) {
			s := next(len(at))
			for left[s] > n {
				s = (s + 1) % len(at)
			}
			left[s]++
			if last, e := x.Leave(m, next(api.MaxWorkers+1), s); last != (left[s] == n+1) || e != api.OK {
				t.Fatalf("%d of %d left scope %d: %v, %v", left[s], n+1, s, last, e)
			}
			if _, live := x.Peek(m, s); live != int64(n+1-left[s]) {
				t.Fatalf("%d of %d left scope %d: %d live", left[s], n+1, s, live)
			}
		}
	}
}

// --- P14.3

// steps does a step of a look that is not done, by a caller, and fails, if it is not one operation of that one, or tells something else.
func steps(t *testing.T, l *scope.Look, m *cells.Machine, w, at int, done, is bool) {
	t.Helper()
	want := m.Clone()
	want.Load(w, at)
	d, c, e := l.Step(m, w)
	if d != done || c != is || e != api.OK {
		t.Fatalf("a step: %v, %v, %v, not %v, %v", d, c, e, done, is)
	}
	if !cells.Same(m, want) {
		t.Fatal("it is not a Load of one who calls")
	}
}

// ended looks whether a look tells the same again, whoever asks, without an operation.
func ended(t *testing.T, l *scope.Look, m *cells.Machine, is bool) {
	t.Helper()
	before := m.Clone()
	for _, w := range append([]int{0, 1, 2, 3, 17}, far...) {
		if d, c, e := l.Step(m, w); !d || c != is || e != api.OK {
			t.Fatalf("done, and yet: %v, %v, %v, not %v", d, c, e, is)
		}
		if d, c, e := l.Step(nil, w); d || c || e != api.ErrNil {
			t.Fatal("a nil machine", d, c, e)
		}
	}
	if !cells.Same(m, before) {
		t.Fatal("a look that is done did an operation")
	}
}

// looks begins a look.
func looks(t *testing.T, x *scope.Tree, s int) *scope.Look {
	t.Helper()
	l, e := x.Look(s)
	if l == nil || e != api.OK {
		t.Fatal(l, e)
	}
	return l
}

func TestP143Example(t *testing.T) {
	m, x := example(t)
	x.Ask(m, 0, 1)
	l := looks(t, x, 2)
	steps(t, l, m, 0, 4, false, false)
	steps(t, l, m, 1, 2, true, true)
	ended(t, l, m, true)
	l = looks(t, x, 3)
	steps(t, l, m, 0, 6, false, false)
	steps(t, l, m, 0, 0, true, false)
	ended(t, l, m, false)
}

// TestP143All begins looks of each scope, of which any were asked, and holds each step against the list of those around it.
func TestP143All(t *testing.T) {
	next := numbers()
	shapes := [][]int{{-1}, {-1, 0}, {-1, 0, 0}, {-1, 0, 1, 0}, {-1, 0, 1, 2, 3, 4}, {-1, 0, 1, 2, 1, 0, 5, 6}, {-1, 0, 0, 0, 2, 2, 5}}
	for _, parents := range shapes {
		for asked := range 1 << len(parents) {
			m, x := fresh(t, 20, 2, 1)
			opens(t, m, x, 0, parents[1:]...)
			for s := range parents {
				if asked>>s&1 == 1 {
					x.Ask(m, next(3), s)
				}
			}
			for s := range parents {
				l := looks(t, x, s)
				is := false
				for _, at := range path(parents, s) {
					if is {
						break
					}
					is = asked>>at&1 == 1
					steps(t, l, m, next(3), 1+2*at, is || at == 0, is)
				}
				ended(t, l, m, is)
			}
		}
	}
}

// TestP143Deep looks at one that has as many around it as there may be.
func TestP143Deep(t *testing.T) {
	for ask := -1; ask <= api.MaxNest; ask++ {
		m, x := fresh(t, 80, 2, 0)
		for s := range api.MaxNest {
			opens(t, m, x, 2, s)
		}
		if ask >= 0 {
			x.Ask(m, 0, ask)
		}
		l := looks(t, x, api.MaxNest)
		for s := api.MaxNest; s >= max(ask, 0); s-- {
			steps(t, l, m, s%3, 2*s, s == max(ask, 0), s == ask)
		}
		ended(t, l, m, ask >= 0)
		if m.Steps(0)+m.Steps(1)+m.Steps(2) > 2*(api.MaxNest+1)+1 {
			t.Error("too many operations")
		}
	}
}

// TestP143Nonzero looks at cells that somebody else stored numbers into: what is not 0 is asked.
func TestP143Nonzero(t *testing.T) {
	for _, n := range []int64{1, 2, -1, math.MaxInt64, math.MinInt64} {
		m, x := example(t)
		for s := range 4 {
			m.Store(0, 2*s+1, n) // how many live is nothing to a look
		}
		l := looks(t, x, 2)
		steps(t, l, m, 0, 4, false, false)
		m.Store(0, 2, n)
		steps(t, l, m, 0, 2, true, true)
		ended(t, l, m, true)
	}
}

// TestP143Refused refuses a Step at each place of a look: the same operation is to be done next.
func TestP143Refused(t *testing.T) {
	for ask := -1; ask < 3; ask++ {
		m, x := example(t)
		if ask >= 0 {
			x.Ask(m, 0, ask)
		}
		l := looks(t, x, 2)
		for s := 2; s >= max(ask, 0); s-- {
			before := m.Clone()
			for _, w := range append([]int{3, 17}, far...) {
				if d, is, e := l.Step(m, w); d || is || e != api.ErrRange {
					t.Errorf("Step of %d: %v, %v, %v", w, d, is, e)
				}
			}
			for _, w := range []int{0, 2, 3, -1} {
				if d, is, e := l.Step(nil, w); d || is || e != api.ErrNil {
					t.Errorf("Step of %d without a machine: %v, %v, %v", w, d, is, e)
				}
			}
			if !cells.Same(m, before) {
				t.Error("an error changed something")
			}
			steps(t, l, m, 1, 2*s, s == max(ask, 0), s == ask)
		}
		ended(t, l, m, ask >= 0)
	}
}

func TestP143LookErrors(t *testing.T) {
	m, x := example(t)
	none := (*scope.Tree)(nil)
	before := m.Clone()
	for _, s := range append([]int{4, 5}, far...) {
		if l, e := x.Look(s); l != nil || e != api.ErrNone {
			t.Error(s, l, e)
		}
	}
	for _, s := range append([]int{0, 1}, far...) {
		if l, e := none.Look(s); l != nil || e != api.ErrNil {
			t.Error(s, l, e)
		}
	}
	var l *scope.Look
	for _, w := range []int{0, 2, 3, -1} {
		if d, is, e := l.Step(m, w); d || is || e != api.ErrNil {
			t.Error(d, is, e)
		}
		if d, is, e := l.Step(nil, w); d || is || e != api.ErrNil {
			t.Error(d, is, e)
		}
	}
	looks(t, x, 2)
	if !cells.Same(m, before) {
		t.Error("a look that has not begun did an operation")
	}
}

// TestP143Later asks behind a look that is done: it tells the same again. Scopes that are opened meanwhile are nothing to it.
func TestP143Later(t *testing.T) {
	m, x := fresh(t, 20, 2, 0)
	opens(t, m, x, 2, 0, 1)
	l := looks(t, x, 2)
	steps(t, l, m, 0, 4, false, false)
	opens(t, m, x, 2, 2, 1)
	x.Ask(m, 0, 3)
	x.Ask(m, 0, 4)
	steps(t, l, m, 0, 2, false, false)
	steps(t, l, m, 0, 0, true, false)
	for s := range 3 {
		x.Ask(m, 0, s)
	}
	ended(t, l, m, false)
}

// TestP143Apart keeps looks of one scope apart, and trees of one machine.
func TestP143Apart(t *testing.T) {
	m, x := fresh(t, 20, 2, 0)
	y, _ := scope.New(m, 0)
	opens(t, m, x, 2, 0)
	opens(t, m, y, 2, 0)
	a, b, c := looks(t, x, 1), looks(t, x, 1), looks(t, y, 1)
	steps(t, a, m, 0, 4, false, false)
	x.Ask(m, 0, 1)
	steps(t, b, m, 0, 4, true, true)
	steps(t, c, m, 0, 6, false, false)
	x.Ask(m, 0, 0)
	steps(t, a, m, 0, 0, true, true)
	steps(t, c, m, 0, 2, true, false)
	if asked, live := y.Peek(m, 0); asked || live != 0 {
		t.Error("the other tree was asked", asked, live)
	}
}

// --- P14.4

// watch is a look, and what is known of it.
type watch struct {
	l         *scope.Look
	s         int
	begun     bool
	hopeless  bool // a scope of its path was asked ahead of its first Step
	ops       int
	done, was bool
}

// looker is a tree, looks under way in it, and what was asked.
type looker struct {
	m       *cells.Machine
	x       *scope.Tree
	parents []int
	asked   []bool
	told    []int // how often Ask told true, of each scope
	looks   []*watch
}

// concerned tells whether a scope, or one around it, was asked.
func (k *looker) concerned(s int) bool {
	return slices.ContainsFunc(path(k.parents, s), func(at int) bool { return k.asked[at] })
}

func (k *looker) ask(t *testing.T, w, s int) {
	t.Helper()
	first, e := k.x.Ask(k.m, w, s)
	if e != api.OK || first == k.asked[s] {
		t.Fatalf("Ask of %d: %v, %v", s, first, e)
	}
	if k.asked[s] = true; first {
		k.told[s]++
	}
}

func (k *looker) step(t *testing.T, w, i int) {
	t.Helper()
	a := k.looks[i]
	if !a.begun {
		a.begun, a.hopeless = true, k.concerned(a.s)
	}
	before := k.m.Steps(w)
	d, is, e := a.l.Step(k.m, w)
	a.ops += k.m.Steps(w) - before
	if e != api.OK || is && !d || a.done && (!d || is != a.was) {
		t.Fatalf("a look of %d: %v, %v, %v", a.s, d, is, e)
	}
	a.done, a.was = d, is
	switch {
	case a.ops > k.x.Nest(a.s)+1:
		t.Fatalf("a look of %d, with %d around it, took %d operations", a.s, k.x.Nest(a.s), a.ops)
	case d && is && !k.concerned(a.s):
		t.Fatalf("a look of %d is cancelled, and nobody asked", a.s)
	case d && !is && a.hopeless:
		t.Fatalf("a look of %d is not cancelled, though it was asked ahead of it", a.s)
	}
}

// ends looks whether all looks come to an end, and whether each scope was told of once at most.
func (k *looker) ends(t *testing.T) {
	t.Helper()
	for i, a := range k.looks {
		for n := 0; !a.done; n++ {
			if n > api.MaxNest {
				t.Fatal("no end")
			}
			k.step(t, n%2, i)
		}
	}
	for s, n := range k.told {
		if n > 1 || n == 1 != k.asked[s] {
			t.Fatalf("Ask of %d told true %d times", s, n)
		}
	}
}

func begun(t *testing.T, looked []int, parents ...int) *looker {
	t.Helper()
	m, x := fresh(t, 2*len(parents)+3, 3, 1)
	opens(t, m, x, 3, parents[1:]...)
	k := &looker{m: m, x: x, parents: parents, asked: make([]bool, len(parents)), told: make([]int, len(parents))}
	for _, s := range looked {
		k.looks = append(k.looks, &watch{l: looks(t, x, s), s: s})
	}
	return k
}

// copied is a looker of its own, the same. Scopes are not opened any more, so the tree may be shared.
func (k *looker) copied() *looker {
	c := &looker{m: k.m.Clone(), x: k.x, parents: k.parents, asked: slices.Clone(k.asked), told: slices.Clone(k.told)}
	for _, a := range k.looks {
		b, l := *a, *a.l
		b.l = &l
		c.looks = append(c.looks, &b)
	}
	return c
}

// orders goes through all orders in which those scopes are asked, and looks step; how many there are, and in how many of them a look was cancelled.
func orders(t *testing.T, k *looker, asks []int) (n, cancelled int) {
	t.Helper()
	end := true
	for i := range asks {
		c := k.copied()
		c.ask(t, 0, asks[i])
		a, b := orders(t, c, slices.Delete(slices.Clone(asks), i, i+1))
		n, cancelled, end = n+a, cancelled+b, false
	}
	for i, a := range k.looks {
		if a.done {
			continue
		}
		c := k.copied()
		c.step(t, 1+i%2, i)
		a, b := orders(t, c, asks)
		n, cancelled, end = n+a, cancelled+b, false
	}
	if !end {
		return n, cancelled
	}
	k.ends(t)
	if slices.ContainsFunc(k.looks, func(a *watch) bool { return a.was }) {
		return 1, 1
	}
	return 1, 0
}

// TestP144AllOrders goes through all orders of asks and looks in some trees.
func TestP144AllOrders(t *testing.T) {
	for i, c := range []struct {
		parents, asks, looks []int
	}{
		{[]int{-1}, []int{0, 0}, []int{0}},
		{[]int{-1, 0, 1}, []int{0, 1, 2, 1}, []int{2}},
		{[]int{-1, 0, 1, 2}, []int{2, 1, 0}, []int{3}},
		{[]int{-1, 0, 1, 0}, []int{1, 3}, []int{2, 3}},
		{[]int{-1, 0, 1, 0}, []int{0, 2, 2}, []int{2, 3}},
		{[]int{-1, 0, 0}, []int{1, 1, 2}, []int{1, 2}},
		{[]int{-1, 0, 1}, []int{0}, []int{2, 2, 1}},
	} {
		n, cancelled := orders(t, begun(t, c.looks, c.parents...), c.asks)
		if n < 3 || cancelled == 0 {
			t.Errorf("%d: %d orders, of which %d cancelled something", i, n, cancelled)
		}
	}
}

// TestP144Between has a look that is not cancelled, though a scope of its path was asked meanwhile, as it had been passed: just the first Step tells.
func TestP144Between(t *testing.T) {
	k := begun(t, []int{2, 2}, -1, 0, 1)
	k.step(t, 0, 0)
	k.ask(t, 1, 2)
	k.step(t, 0, 0)
	k.step(t, 0, 0)
	k.step(t, 0, 1)
	if a, b := k.looks[0], k.looks[1]; !a.done || a.was || a.ops != 3 || !b.done || !b.was || b.ops != 1 {
		t.Error(*a, *b)
	}
}

// TestP144Many lets many ask and look, in some orders of long runs, in trees of any shape.
func TestP144Many(t *testing.T) {
	next := numbers()
	both := [2]int{}
	for range 400 {
		parents := []int{-1}
		for range 3 + next(40) {
			p := len(parents) - 1 - next(min(4, len(parents)))
			if len(path(parents, p)) <= api.MaxNest {
				parents = append(parents, p)
			}
		}
		var looked []int
		for range 12 {
			looked = append(looked, next(len(parents)))
		}
		k := begun(t, looked, parents...)
		rare := 2 + next(40)
		for range 300 {
			if next(rare) == 0 {
				k.ask(t, next(4), next(len(parents)))
			} else {
				k.step(t, next(4), next(len(looked)))
			}
		}
		k.ends(t)
		for _, a := range k.looks {
			if a.was {
				both[1]++
			} else {
				both[0]++
			}
		}
	}
	if both[0] < 500 || both[1] < 500 {
		t.Error("too few looks", both)
	}
}
