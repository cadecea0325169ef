package future_test

import (
	"math"
	"testing"

	"peloton/api"
	"peloton/cells"
	"peloton/future"
)

// numbers is a row of numbers that is the same each time.
func numbers() func(n int) int {
	seed := uint32(15)
	return func(n int) int {
		seed = seed*1664525 + 1013904223
		return int(seed>>8) % n
	}
}

// power is 2^w, by doubling.
func power(w int) int64 {
	if w == 0 {
		return 1
	}
	return 2 * power(w-1)
}

// edges is numbers of cells at the edges, all kinds among them.
var edges = []int64{0, 1, 2, 3, 4, 5, 7, -1, -2, math.MaxInt64, math.MinInt64, math.MaxInt64 - 1, math.MinInt64 + 1, 1 << 32, 1<<32 + 2, -1 << 32}

// far is numbers that no worker has, no kind, and no cell.
var far = []int{math.MinInt, math.MinInt + 1, -1 << 32, -64, -3, -2, -1, 63, 64, 65, 1 << 32, 1<<32 + 1, 1 << 62, math.MaxInt - 1, math.MaxInt}

// ends is the kinds as which a future may end.
var ends = []int{api.Value, api.Panicked, api.Cancelled}

// fresh is a machine, and a future in it, ahead of which so many cells are given away.
func fresh(t *testing.T, size, workers, ahead int) (*cells.Machine, future.Future) {
	t.Helper()
	m, e := cells.New(size, workers)
	if e != api.OK {
		t.Fatal(e)
	}
	if ahead > 0 {
		m.Alloc(workers, ahead)
	}
	f, e := future.New(m, workers)
	if f != (future.Future{At: ahead}) || e != api.OK {
		t.Fatal(f, e)
	}
	return m, f
}

// laid is a machine all of whose cells are given away, with numbers at the edges in them, and a future in the midst of it.
func laid(t *testing.T, next func(int) int) (*cells.Machine, future.Future) {
	t.Helper()
	m, f := fresh(t, 9, api.MaxWorkers, 3)
	m.Alloc(0, 3)
	for at := range 9 {
		m.Store(0, at, edges[next(len(edges))])
	}
	return m, f
}

// stands fails, if Peek does not tell these.
func stands(t *testing.T, m *cells.Machine, f future.Future, kind int, v, who int64) {
	t.Helper()
	if k, x, b := f.Peek(m); k != kind || x != v || b != who {
		t.Fatalf("Peek is %d, %d, %d, not %d, %d, %d", k, x, b, kind, v, who)
	}
}

// --- P15.1

func TestP151New(t *testing.T) {
	for w := range 4 {
		m, _ := cells.New(11, 3)
		for _, at := range []int{0, 3, 6} {
			want := m.Clone()
			want.Alloc(w, 3)
			f, e := future.New(m, w)
			if f != (future.Future{At: at}) || e != api.OK || !cells.Same(m, want) {
				t.Errorf("New of %d: %v, %v", w, f, e)
			}
			stands(t, m, f, api.Pending, 0, 0)
			if kind, e := f.State(m, w); kind != api.Pending || e != api.OK {
				t.Error("a new one is not Pending", kind, e)
			}
		}
		before := m.Clone() // two cells are left
		if f, e := future.New(m, w); f != (future.Future{}) || e != api.ErrArena || !cells.Same(m, before) {
			t.Error("without room", f, e)
		}
	}
}

func TestP151NewErrors(t *testing.T) {
	full, _ := fresh(t, 3, 1, 0)
	one, _ := fresh(t, 4, 1, 0)
	two, _ := fresh(t, 6, 1, 1)
	m, _ := fresh(t, 8, 2, 2)
	most, _ := fresh(t, 8, api.MaxWorkers, 2)
	small, _ := cells.New(2, 1)
	for i, c := range []struct {
		m *cells.Machine
		w int
		e api.Errno
	}{
		{nil, 0, api.ErrNil}, {nil, -1, api.ErrNil}, {nil, 99, api.ErrNil}, {nil, math.MinInt, api.ErrNil},
		{m, -1, api.ErrRange}, {m, 3, api.ErrRange}, {m, math.MinInt, api.ErrRange}, {m, math.MaxInt, api.ErrRange},
		{most, api.MaxWorkers + 1, api.ErrRange},
		{full, 0, api.ErrArena}, {full, 1, api.ErrArena}, {full, 2, api.ErrRange},
		{one, 0, api.ErrArena}, {two, 1, api.ErrArena}, {small, 0, api.ErrArena}, {small, 2, api.ErrRange},
	} {
		before := c.m.Clone()
		if f, e := future.New(c.m, c.w); f != (future.Future{}) || e != c.e || !cells.Same(c.m, before) {
			t.Errorf("%d: %v, %v, not %v", i, f, e, c.e)
		}
	}
	if f, e := future.New(m, 0); f != (future.Future{At: 5}) || e != api.OK {
		t.Error("what was refused took cells", f, e)
	}
}

// TestP151Last makes a future of the last cells that there may be.
func TestP151Last(t *testing.T) {
	m, f := fresh(t, api.MaxCells, api.MaxWorkers, api.MaxCells-3)
	if is, e := f.Claim(m, api.MaxWorkers); !is || e != api.OK {
		t.Error(is, e)
	}
	if f.Put(m, 0, math.MinInt64) != api.OK || f.Wait(m, api.MaxWorkers) != api.OK {
		t.Error("refused")
	}
	if is, e := f.End(m, 0, api.Cancelled); !is || e != api.OK {
		t.Error(is, e)
	}
	stands(t, m, f, api.Cancelled, math.MinInt64, power(api.MaxWorkers))
	if m.Peek(api.MaxCells-3) != api.Cancelled || m.Peek(api.MaxCells-2) != math.MinInt64 || m.Peek(api.MaxCells-1) != power(api.MaxWorkers) {
		t.Error("the cells are others")
	}
}

// --- P15.2

// calls is how many calls there are that do an operation, but New.
const calls = 8

// done does one of the calls, with a number or a kind, and holds its answer, and what it did, against the machine's own operation.
func done(t *testing.T, m *cells.Machine, f future.Future, call, w int, v int64, kind int) {
	t.Helper()
	want := m.Clone()
	var e, we api.Errno
	same := true
	switch call {
	case 0:
		x, is := want.Load(w, f.At)
		var got int
		got, e = f.State(m, w)
		same, we = int64(got) == x, is
	case 1:
		x, is := want.CAS(w, f.At, 0, 1)
		var got bool
		got, e = f.Claim(m, w)
		same, we = got == x, is
	case 2:
		we = want.Store(w, f.At+1, v)
		e = f.Put(m, w, v)
	case 3:
		x, is := want.CAS(w, f.At, 1, int64(kind))
		var got bool
		got, e = f.End(m, w, kind)
		same, we = got == x, is
	case 4:
		x, is := want.Load(w, f.At+1)
		var got int64
		got, e = f.Value(m, w)
		same, we = got == x, is
	case 5:
		_, we = want.Add(w, f.At+2, power(w))
		e = f.Wait(m, w)
	case 6:
		_, we = want.Add(w, f.At+2, -power(w))
		e = f.Leave(m, w)
	case 7:
		x, is := want.Load(w, f.At+2)
		var got int64
		got, e = f.Waiters(m, w)
		same, we = got == x, is
	}
	if !same || e != we || !cells.Same(m, want) {
		t.Fatalf("call %d of %d, of %v (%d, %d): %v, not %v, or its answer, or what it did", call, w, f, v, kind, e, we)
	}
}

// TestP152Each does each call, of each caller, whatever stands in the cells, and beside them.
func TestP152Each(t *testing.T) {
	next := numbers()
	for call := range calls {
		for w := range api.MaxWorkers + 1 {
			for _, a := range edges {
				m, f := laid(t, next)
				m.Store(0, f.At, a)
				done(t, m, f, call, w, edges[next(len(edges))], ends[next(3)])
			}
		}
	}
}

// TestP152Operations does calls in long rows, of two futures in one machine.
func TestP152Operations(t *testing.T) {
	next := numbers()
	m, f := laid(t, next)
	both := []future.Future{f, {At: f.At + 3}}
	for range 3000 {
		if next(4) == 0 {
			m.Store(0, next(9), int64(next(3)))
		}
		done(t, m, both[next(2)], next(calls), next(api.MaxWorkers+1), edges[next(len(edges))], ends[next(3)])
	}
}

// TestP152Kinds holds Claim and End against each kind as which a future may stand.
func TestP152Kinds(t *testing.T) {
	for stood := range api.Cancelled + 1 {
		m, f := fresh(t, 3, 2, 0)
		m.Store(0, 0, int64(stood))
		if kind, e := f.State(m, 1); kind != stood || e != api.OK {
			t.Error(stood, kind, e)
		}
		if is, e := f.Claim(m, 1); is != (stood == api.Pending) || e != api.OK {
			t.Errorf("Claim of one that is %d: %v, %v", stood, is, e)
		}
		if kind := m.Peek(0); kind != int64(max(stood, api.Running)) {
			t.Errorf("behind a Claim of one that is %d it is %d", stood, kind)
		}
		for _, kind := range ends {
			m.Store(0, 0, int64(stood))
			is, e := f.End(m, 1, kind)
			if is != (stood == api.Running) || e != api.OK {
				t.Errorf("End as %d of one that is %d: %v, %v", kind, stood, is, e)
			}
			if now := m.Peek(0); is && now != int64(kind) || !is && now != int64(stood) {
				t.Errorf("behind an End as %d of one that is %d it is %d", kind, stood, now)
			}
		}
	}
}

// TestP152EndKinds ends as what is no end: that is told ahead of what the machine tells, and nothing is done.
func TestP152EndKinds(t *testing.T) {
	bad := append([]int{api.Pending, api.Running, api.Cancelled + 1, 6, 1<<32 + api.Value, -1<<32 + api.Cancelled}, far...)
	for _, kind := range bad {
		for stood := range api.Cancelled + 1 {
			m, f := fresh(t, 4, 2, 1)
			m.Store(0, 1, int64(stood))
			for _, g := range []future.Future{f, {At: 2}, {At: -7}} {
				for _, w := range []int{0, 1, 2, 3, -1} {
					before := m.Clone()
					if is, e := g.End(m, w, kind); is || e != api.ErrRange || !cells.Same(m, before) {
						t.Errorf("End of %d as %d: %v, %v", w, kind, is, e)
					}
				}
			}
		}
		if is, e := (future.Future{}).End(nil, 0, kind); is || e != api.ErrNil {
			t.Error("a nil machine is told first", kind, is, e)
		}
	}
}

// TestP152Wait lets each caller that there may be wait, and leave, alone and beside all others.
func TestP152Wait(t *testing.T) {
	m, f := fresh(t, 4, api.MaxWorkers, 0)
	all := int64(0)
	for w := range api.MaxWorkers + 1 {
		g, e := fresh(t, 3, api.MaxWorkers, 0)
		if e.Wait(g, w) != api.OK || g.Peek(2) != power(w) || e.Leave(g, w) != api.OK || g.Peek(2) != 0 || g.Steps(w) < 2 {
			t.Error("alone", w, g.Peek(2))
		}
		if err := f.Wait(m, w); err != api.OK {
			t.Error(w, err)
		}
		all += power(w)
		if bits, err := f.Waiters(m, 0); bits != all || err != api.OK {
			t.Error(w, bits, err)
		}
	}
	for w := range api.MaxWorkers + 1 {
		if e := f.Leave(m, w); e != api.OK {
			t.Error(w, e)
		}
		all -= power(w)
		if bits, e := f.Waiters(m, 0); bits != all || e != api.OK {
			t.Error(w, bits, e)
		}
	}
}

// refused does all calls, and holds them against an error, and zero values.
func refused(t *testing.T, f future.Future, m *cells.Machine, w int, want api.Errno) {
	t.Helper()
	before := m.Clone()
	if kind, e := f.State(m, w); kind != 0 || e != want {
		t.Errorf("State of %d: %d, %v, not %v", w, kind, e, want)
	}
	if is, e := f.Claim(m, w); is || e != want {
		t.Errorf("Claim of %d: %v, %v, not %v", w, is, e, want)
	}
	if e := f.Put(m, w, 9); e != want {
		t.Errorf("Put of %d: %v, not %v", w, e, want)
	}
	for _, kind := range ends {
		if is, e := f.End(m, w, kind); is || e != want {
			t.Errorf("End of %d: %v, %v, not %v", w, is, e, want)
		}
	}
	if v, e := f.Value(m, w); v != 0 || e != want {
		t.Errorf("Value of %d: %d, %v, not %v", w, v, e, want)
	}
	if e := f.Wait(m, w); e != want {
		t.Errorf("Wait of %d: %v, not %v", w, e, want)
	}
	if e := f.Leave(m, w); e != want {
		t.Errorf("Leave of %d: %v, not %v", w, e, want)
	}
	if bits, e := f.Waiters(m, w); bits != 0 || e != want {
		t.Errorf("Waiters of %d: %d, %v, not %v", w, bits, e, want)
	}
	if !cells.Same(m, before) {
		t.Errorf("an error changed something: %v, %d", f, w)
	}
}

// TestP152Refused refuses calls, whatever stands in the cells.
func TestP152Refused(t *testing.T) {
	callers := append([]int{0, 1, 2, 3, api.MaxWorkers, api.MaxWorkers + 1, 62}, far...)
	for _, stood := range []int64{0, 1, 2, 7} {
		m, f := fresh(t, 8, 2, 2)
		most, g := fresh(t, 8, api.MaxWorkers, 2)
		for at := range 8 {
			m.Store(0, at, stood)
			most.Store(0, at, stood)
		}
		for _, w := range callers {
			refused(t, f, nil, w, api.ErrNil)
			refused(t, future.Future{At: -1}, nil, w, api.ErrNil)
			if w < 0 || w > 2 { // machines of more workers have some of them
				refused(t, f, m, w, api.ErrRange)
			}
			if w < 0 || w > api.MaxWorkers {
				refused(t, g, most, w, api.ErrRange)
			}
			for _, at := range append([]int{5, 8, 1 << 20}, far...) {
				if at != -1 && at != -2 { // of which cells are there
					refused(t, future.Future{At: at}, m, w, api.ErrRange)
				}
			}
		}
	}
}

// TestP152Cells asks for futures of whose three cells just some are given away: each call is about one of them alone.
func TestP152Cells(t *testing.T) {
	next := numbers()
	for at := -4; at < 10; at++ {
		for call := range calls {
			for _, stood := range []int64{0, 1, 2} {
				m, _ := fresh(t, 9, 2, 2)
				for c := range 5 {
					m.Store(0, c, stood)
				}
				done(t, m, future.Future{At: at}, call, next(3), 9, ends[next(3)])
			}
		}
	}
}

// --- P15.3

func TestP153Example(t *testing.T) {
	m, _ := cells.New(4, 1)
	f, e := future.New(m, 0)
	if f != (future.Future{}) || e != api.OK {
		t.Fatal(f, e)
	}
	if is, e := f.End(m, 0, api.Value); is || e != api.OK {
		t.Error(is, e)
	}
	for w, want := range []bool{true, false} {
		if is, e := f.Claim(m, w); is != want || e != api.OK {
			t.Error(w, is, e)
		}
	}
	if f.Put(m, 0, 7) != api.OK || f.Wait(m, 1) != api.OK {
		t.Error("refused")
	}
	stands(t, m, f, api.Running, 0, 2)
	if is, e := f.End(m, 0, api.Value); !is || e != api.OK {
		t.Error(is, e)
	}
	if is, e := f.End(m, 0, api.Cancelled); is || e != api.OK {
		t.Error(is, e)
	}
	stands(t, m, f, api.Value, 7, 2)
}

// TestP153Peek looks at futures in whose cells anything may stand.
func TestP153Peek(t *testing.T) {
	next := numbers()
	for _, a := range edges {
		for _, b := range edges {
			for _, c := range edges {
				m, f := laid(t, next)
				m.Store(0, f.At, a)
				m.Store(0, f.At+1, b)
				m.Store(0, f.At+2, c)
				before, v := m.Clone(), int64(0)
				if a >= api.Value {
					v = b
				}
				stands(t, m, f, int(a), v, c)
				stands(t, nil, f, 0, 0, 0)
				if !cells.Same(m, before) {
					t.Fatal("Peek did an operation")
				}
			}
		}
	}
}

// TestP153Nowhere looks at futures that are not there.
func TestP153Nowhere(t *testing.T) {
	m, _ := fresh(t, 9, 2, 2)
	for at := range 5 {
		m.Store(0, at, 2)
	}
	before := m.Clone()
	for _, at := range append([]int{5, 6, 7, 8, 9, 1 << 20}, far...) {
		if at != -1 && at != -2 {
			stands(t, m, future.Future{At: at}, 0, 0, 0)
		}
		stands(t, nil, future.Future{At: at}, 0, 0, 0)
	}
	stands(t, m, future.Future{At: 3}, 2, 2, 0) // the last one of its cells is nobody's
	stands(t, m, future.Future{At: 4}, 2, 0, 0)
	if !cells.Same(m, before) {
		t.Error("Peek did an operation")
	}
}

// --- P15.4

// model is what a chapter's future would be.
type model struct {
	kind int
	v    int64
	who  int64
}

// turn does one of what workers may do to a future, and holds it against the model.
func turn(t *testing.T, m *cells.Machine, f future.Future, x *model, what, w int) {
	t.Helper()
	switch what {
	case 0:
		is, e := f.Claim(m, w)
		if is != (x.kind == api.Pending) || e != api.OK {
			t.Fatalf("Claim of one that is %d: %v, %v", x.kind, is, e)
		}
		if is {
			x.kind = api.Running
		}
	case 1, 2, 3:
		kind := ends[what-1]
		is, e := f.End(m, w, kind)
		if is != (x.kind == api.Running) || e != api.OK {
			t.Fatalf("End as %d of one that is %d: %v, %v", kind, x.kind, is, e)
		}
		if is {
			x.kind = kind
		}
	case 4:
		x.v = int64(w) + 100
		if e := f.Put(m, w, x.v); e != api.OK {
			t.Fatal(e)
		}
	case 5:
		call := f.Wait
		if x.who/power(w)%2 == 1 {
			call, x.who = f.Leave, x.who-2*power(w)
		}
		x.who += power(w)
		if e := call(m, w); e != api.OK {
			t.Fatal(e)
		}
	}
	holds(t, m, f, *x, w)
}

// holds reads a future, by all calls that read, and holds it against the model.
func holds(t *testing.T, m *cells.Machine, f future.Future, x model, w int) {
	t.Helper()
	kind, e := f.State(m, w)
	v, e1 := f.Value(m, w)
	who, e2 := f.Waiters(m, w)
	if kind != x.kind || v != x.v || who != x.who || e != api.OK || e1 != api.OK || e2 != api.OK {
		t.Fatalf("it is %d, %d, %d, not %v", kind, v, who, x)
	}
	if kind < api.Value {
		v = 0
	}
	stands(t, m, f, kind, v, who)
}

// TestP154Rows does all rows of six of what workers may do, whoever does it.
func TestP154Rows(t *testing.T) {
	next := numbers()
	const kinds, length = 6, 6
	for row := range 46656 { // 6^6
		m, f := fresh(t, 5, 3, 1)
		var x model
		for range length {
			turn(t, m, f, &x, row%kinds, next(4))
			row /= kinds
		}
	}
}

// TestP154Many does long runs, of as many workers as there may be, and of several futures side by side.
func TestP154Many(t *testing.T) {
	next := numbers()
	came := make([]int, api.Cancelled+1)
	for range 200 {
		m, first := fresh(t, 30, api.MaxWorkers, 2)
		all, xs := []future.Future{first}, make([]model, 5)
		for len(all) < len(xs) {
			m.Alloc(0, len(all))
			f, _ := future.New(m, 3)
			all = append(all, f)
		}
		for range 60 {
			i := next(len(all))
			turn(t, m, all[i], &xs[i], next(6), next(api.MaxWorkers+1))
		}
		for i := range all {
			holds(t, m, all[i], xs[i], 0)
			came[xs[i].kind]++
		}
	}
	for kind, n := range came {
		if n == 0 && kind != api.Pending {
			t.Error("none came to be", kind)
		}
	}
}

// orders tells all orders of workers who do so many things each.
func orders(left []int, tell func(order []int)) {
	var order []int
	var on func()
	on = func() {
		end := true
		for w := range left {
			if left[w] == 0 {
				continue
			}
			end = false
			left[w]--
			order = append(order, w)
			on()
			order = order[:len(order)-1]
			left[w]++
		}
		if end {
			tell(order)
		}
	}
	on()
}

// plan is what a worker does, one operation each, and what it found.
type plan struct {
	at      int
	claimed bool
	ended   bool
	kind    int
	v       int64
	who     int64
	do      []func(p *plan, w int)
}

// step does what a worker does next.
func (p *plan) step(w int) {
	p.do[p.at](p, w)
	p.at++
}

// shared is what several work on.
type shared struct {
	m *cells.Machine
	f future.Future
}

func (s shared) claim(p *plan, w int) { p.claimed, _ = s.f.Claim(s.m, w) }
func (s shared) state(p *plan, w int) { p.kind, _ = s.f.State(s.m, w) }
func (s shared) value(p *plan, w int) { p.v, _ = s.f.Value(s.m, w) }
func (s shared) wait(p *plan, w int)  { s.f.Wait(s.m, w) }
func (s shared) read(p *plan, w int)  { p.who, _ = s.f.Waiters(s.m, w) }

// put puts down what tells the worker, if it was the one that claimed; else it looks how it stands.
func (s shared) put(p *plan, w int) {
	if !p.claimed {
		s.state(p, w)
		return
	}
	s.f.Put(s.m, w, int64(w)+50)
}

// end ends as what tells the worker, if it was the one that claimed; else it looks at what was put down.
func (s shared) end(p *plan, w int) {
	if !p.claimed {
		s.value(p, w)
		return
	}
	p.ended, _ = s.f.End(s.m, w, ends[w%3])
}

// leave leaves, if it found that it has come to something.
func (s shared) leave(p *plan, w int) {
	if p.kind >= api.Value {
		s.f.Leave(s.m, w)
	} else {
		s.state(p, w)
	}
}

// runs does plans in an order, in a machine of their own.
func runs(t *testing.T, order []int, plans func(s shared) []plan) (shared, []plan) {
	t.Helper()
	m, f := fresh(t, 4, api.MaxWorkers, 1)
	s := shared{m, f}
	all := plans(s)
	for _, w := range order {
		all[w].step(w)
	}
	return s, all
}

// claimers is three who claim, and a reader who looks twice; the ones who did not claim look as well.
func claimers(s shared) []plan {
	one := []func(*plan, int){s.claim, s.put, s.end}
	return []plan{{do: one}, {do: one}, {do: one}, {do: []func(*plan, int){s.state, s.value}}}
}

// hasty is the same, but who claimed ends it ahead of what it puts down.
func hasty(s shared) []plan {
	one := []func(*plan, int){s.claim, s.end, s.put}
	return []plan{{do: one}, {do: one}, {do: one}, {do: []func(*plan, int){s.state, s.value}}}
}

// TestP154Once lets three claim, put down and end, in all orders: one does, and who finds the end finds what it put down.
func TestP154Once(t *testing.T) {
	n, stale := 0, 0
	left := func() []int { return []int{3, 3, 3, 2} }
	orders(left(), func(order []int) {
		n++
		s, all := runs(t, order, claimers)
		did := -1
		for w, p := range all[:3] {
			if p.claimed != p.ended || p.claimed && did >= 0 {
				t.Fatalf("%v: claimed %v, ended %v by %d, and by %d", order, p.claimed, p.ended, w, did)
			}
			if p.claimed {
				did = w
			}
		}
		if did < 0 {
			t.Fatalf("%v: nobody claimed it", order)
		}
		stands(t, s.m, s.f, ends[did], int64(did)+50, 0)
		for w, p := range all {
			if w != did && p.kind >= api.Value && (p.kind != ends[did] || p.v != int64(did)+50) {
				t.Fatalf("%v: %d found %d, %d", order, w, p.kind, p.v)
			}
			if w != did && p.kind == api.Pending && w < 3 {
				t.Fatalf("%v: %d came late, and found that it is Pending", order, w)
			}
		}
	})
	if n != 92400 {
		t.Errorf("%d orders", n)
	}
	orders(left(), func(order []int) { // the order of putting down and ending counts
		_, all := runs(t, order, hasty)
		if p := all[3]; p.kind >= api.Value && p.v == 0 {
			stale++
		}
	})
	if stale == 0 {
		t.Error("nobody found too little, though it was ended too early")
	}
}

// lost tells in how many orders, of all, neither who ends it saw one that waits, nor that one saw the end.
func lost(t *testing.T, ender, waiter func(s shared) []func(*plan, int)) (int, int) {
	t.Helper()
	n, bad := 0, 0
	plans := func(s shared) []plan {
		s.f.Claim(s.m, 0)
		return []plan{{claimed: true, do: ender(s)}, {do: waiter(s)}, {do: waiter(s)}}
	}
	s := shared{}
	a, b := len(ender(s)), len(waiter(s))
	orders([]int{a, b, b}, func(order []int) {
		n++
		_, all := runs(t, order, plans)
		for w, p := range all[1:] {
			if p.kind < api.Value && all[0].who/power(w+1)%2 == 0 {
				bad++
			}
		}
	})
	return n, bad
}

// TestP154Seen lets one end, and two wait, in all orders: one of the two sees the other one, as long as both keep to their order.
func TestP154Seen(t *testing.T) {
	type plans = func(s shared) []func(*plan, int)
	var ender plans = func(s shared) []func(*plan, int) { return []func(*plan, int){s.put, s.end, s.read} }
	var early plans = func(s shared) []func(*plan, int) { return []func(*plan, int){s.put, s.read, s.end} }
	var waiter plans = func(s shared) []func(*plan, int) { return []func(*plan, int){s.wait, s.state} }
	var leaver plans = func(s shared) []func(*plan, int) { return []func(*plan, int){s.wait, s.state, s.leave} }
	var blind plans = func(s shared) []func(*plan, int) { return []func(*plan, int){s.state, s.wait} }
	for i, c := range []struct {
		ender, waiter plans
		n             int
		loses         bool
	}{
		{ender, waiter, 210, false}, {ender, leaver, 1680, false},
		{early, waiter, 210, true}, {ender, blind, 210, true},
	} {
		if n, bad := lost(t, c.ender, c.waiter); n != c.n || bad > 0 != c.loses {
			t.Errorf("%d: of %d orders %d lose one", i, n, bad)
		}
	}
}

// TestP154SeenMany lets one end, and all others that there may be wait, in some orders.
func TestP154SeenMany(t *testing.T) {
	next := numbers()
	both := 0
	for range 2000 {
		m, f := fresh(t, 4, api.MaxWorkers, 1)
		s := shared{m, f}
		f.Claim(m, 0)
		all := []plan{{claimed: true, do: []func(*plan, int){s.put, s.end, s.read}}}
		for range api.MaxWorkers {
			all = append(all, plan{do: []func(*plan, int){s.wait, s.state}})
		}
		for left := 3 + 2*api.MaxWorkers; left > 0; {
			if w := next(len(all)); all[w].at < len(all[w].do) {
				all[w].step(w)
				left--
			}
		}
		late := 0
		for w, p := range all[1:] {
			if p.kind < api.Value && all[0].who/power(w+1)%2 == 0 {
				t.Fatal("neither saw the other one", w+1)
			}
			if p.kind >= api.Value {
				late++
			}
		}
		if late > 0 && late < api.MaxWorkers {
			both++
		}
		stands(t, m, f, api.Value, 50, 2*(power(api.MaxWorkers)-1))
	}
	if both < 100 {
		t.Errorf("just %d runs have such as came early, and such as came late", both)
	}
}
