package deque_test

import (
	"math"
	"slices"
	"testing"

	"peloton/api"
	"peloton/cells"
	"peloton/deque"
	"peloton/ring"
)

// numbers is a row of numbers that is the same each time.
func numbers() func(n int) int {
	seed := uint32(10)
	return func(n int) int {
		seed = seed*1664525 + 1013904223
		return int(seed>>8) % n
	}
}

// size is a power of two, told without a shift.
func size(log int) int {
	n := 1
	for range log {
		n *= 2
	}
	return n
}

// fresh is a machine, and a deque in it that the driver made.
func fresh(t *testing.T, size, workers, log, most int) (*cells.Machine, deque.Deque) {
	t.Helper()
	m, e := cells.New(size, workers)
	if e != api.OK {
		t.Fatal(e)
	}
	d, e := deque.New(m, workers, log, most)
	if e != api.OK {
		t.Fatal(e)
	}
	return m, d
}

// finish does an operation to its end; how it ended, and with which Step.
func finish(t *testing.T, o *deque.Op, m *cells.Machine, w int) (int, int) {
	t.Helper()
	for i := 1; i < 1000; i++ {
		if how := o.Step(m, w); how != deque.Busy && how != deque.Seen {
			return how, i
		}
	}
	t.Fatal("an operation without an end")
	return 0, 0
}

// ended does an operation to its end, and holds it against what it should come to.
func ended(t *testing.T, o *deque.Op, m *cells.Machine, w, how, steps int, got int64) {
	t.Helper()
	if h, n := finish(t, o, m, w); h != how || n != steps || o.Got() != got || o.Err() != api.OK {
		t.Fatalf("ended as %d, with Step %d, with %d, %v, not as %d, with Step %d, with %d", h, n, o.Got(), o.Err(), how, steps, got)
	}
}

// push puts numbers in.
func push(t *testing.T, d deque.Deque, m *cells.Machine, all ...int64) {
	t.Helper()
	for _, x := range all {
		if how, _ := finish(t, d.Push(x), m, 0); how != deque.Done {
			t.Fatalf("Push(%d) is %d", x, how)
		}
	}
}

// holds looks at what is in a deque.
func holds(t *testing.T, d deque.Deque, m *cells.Machine, want ...int64) {
	t.Helper()
	if l := d.List(m); !slices.Equal(l, want) {
		t.Fatalf("%v is in it, not %v", l, want)
	}
}

// --- P10.1

func TestP101New(t *testing.T) {
	for log := range api.MaxLog + 1 {
		for most := log; most <= api.MaxLog; most++ {
			for w := range 3 {
				m, _ := cells.New(500, 2)
				m.Alloc(1, 5)
				want := m.Clone()
				want.Alloc(w, 3+size(log))
				want.Store(w, 7, int64(16*8+log))
				d, e := deque.New(m, w, log, most)
				if d != (deque.Deque{At: 5, Most: most}) || e != api.OK || !cells.Same(m, want) {
					t.Fatalf("New(%d, %d, %d): %v, %v", w, log, most, d, e)
				}
				holds(t, d, m)
			}
		}
	}
}

// TestP101Last makes a deque of the last cells that there may be.
func TestP101Last(t *testing.T) {
	m, _ := cells.New(api.MaxCells, 1)
	m.Alloc(0, api.MaxCells-4)
	d, e := deque.New(m, 0, 0, 8)
	if d != (deque.Deque{At: api.MaxCells - 4, Most: 8}) || e != api.OK || m.Peek(api.MaxCells-2) != 16*(api.MaxCells-1) {
		t.Fatal(d, e, m.Peek(api.MaxCells-2))
	}
	push(t, d, m, 3)
	holds(t, d, m, 3)
	o := d.Push(4)
	if how, n := finish(t, o, m, 0); how != deque.Broke || n != 4 || o.Err() != api.ErrArena {
		t.Error(how, n, o.Err())
	}
	ended(t, d.Pop(), m, 0, deque.Done, 7, 3)
}

func TestP101Errors(t *testing.T) {
	m, _ := cells.New(40, 2)
	m.Alloc(2, 30)
	for i, c := range []struct {
		m            *cells.Machine
		w, log, most int
		e            api.Errno
	}{
		{nil, 0, 0, 0, api.ErrNil},
		{nil, 9, -1, 9, api.ErrNil},
		{m, 0, -1, 3, api.ErrRange},
		{m, 0, -1, -1, api.ErrRange},
		{m, 0, math.MinInt, math.MinInt, api.ErrRange},
		{m, 0, 1, 0, api.ErrRange},
		{m, 0, 8, 7, api.ErrRange},
		{m, 0, 0, -1, api.ErrRange},
		{m, 0, 0, 9, api.ErrRange},
		{m, 0, 9, 9, api.ErrRange},
		{m, 0, 64, 64, api.ErrRange},
		{m, 0, 0, math.MaxInt, api.ErrRange},
		{m, 0, math.MaxInt, math.MaxInt, api.ErrRange},
		{m, 0, 8, 9, api.ErrRange}, // ahead of ErrArena
		{m, 3, 0, 0, api.ErrRange},
		{m, -1, 0, 0, api.ErrRange},
		{m, 3, 8, 8, api.ErrRange}, // nor is there room
		{m, 0, 8, 8, api.ErrArena},
		{m, 0, 3, 3, api.ErrArena}, // 11 cells, and 10 are left
	} {
		before := c.m.Clone()
		if d, e := deque.New(c.m, c.w, c.log, c.most); d != (deque.Deque{}) || e != c.e {
			t.Errorf("%d: New(%d, %d, %d): %v, %v", i, c.w, c.log, c.most, d, e)
		}
		if !cells.Same(c.m, before) {
			t.Errorf("%d: an error changed something", i)
		}
	}
	if d, e := deque.New(m, 0, 2, 8); d != (deque.Deque{At: 30, Most: 8}) || e != api.OK {
		t.Error("what was refused took room", d, e)
	}
}

func TestP101Bottom(t *testing.T) {
	m, d := fresh(t, 40, 2, 1, 3)
	for n := range int64(5) {
		for w := range 3 {
			want := m.Clone()
			want.Load(w, 1)
			if b, e := d.Bottom(m, w); b != n || e != api.OK || !cells.Same(m, want) {
				t.Errorf("Bottom of %d: %d, %v, not %d", w, b, e, n)
			}
		}
		push(t, d, m, 70+n)
	}
	ended(t, d.Steal(), m, 1, deque.Done, 5, 70)
	if b, e := d.Bottom(m, 0); b != 5 || e != api.OK {
		t.Error(b, e)
	}
	before := m.Clone()
	for i, c := range []struct {
		d deque.Deque
		m *cells.Machine
		w int
		e api.Errno
	}{
		{d, nil, 0, api.ErrNil}, {d, nil, 9, api.ErrNil}, {deque.Deque{At: -9}, nil, 0, api.ErrNil},
		{d, m, -1, api.ErrRange}, {d, m, 3, api.ErrRange}, {d, m, math.MaxInt, api.ErrRange},
		{deque.Deque{At: m.Used() - 1}, m, 0, api.ErrRange}, {deque.Deque{At: -2}, m, 0, api.ErrRange},
		{deque.Deque{At: math.MaxInt}, m, 0, api.ErrRange}, {deque.Deque{At: math.MinInt}, m, 0, api.ErrRange},
	} {
		if b, e := c.d.Bottom(c.m, c.w); b != 0 || e != c.e {
			t.Errorf("%d: %d, %v", i, b, e)
		}
	}
	if !cells.Same(m, before) {
		t.Error("an error changed something")
	}
}

func TestP101List(t *testing.T) {
	m, d := fresh(t, 40, 2, 0, 2)
	holds(t, d, nil)
	holds(t, deque.Deque{}, nil)
	push(t, d, m, 5, -6, 0)
	before := m.Clone()
	holds(t, d, m, 5, -6, 0)
	l := d.List(m)
	l[0] = 99 // the caller's
	holds(t, d, m, 5, -6, 0)
	if !cells.Same(m, before) {
		t.Error("List did an operation")
	}
	ended(t, d.Steal(), m, 1, deque.Done, 5, 5)
	push(t, d, m, 8, 9) // round the ring of four
	holds(t, d, m, -6, 0, 8, 9)
	m.Store(0, 0, 5)
	holds(t, d, m)
}

// TestP101Apart keeps two deques in one machine, of which neither sees the other one.
func TestP101Apart(t *testing.T) {
	m, _ := cells.New(60, 2)
	a, _ := deque.New(m, 2, 0, 3)
	b, _ := deque.New(m, 2, 1, 3)
	for x := range int64(8) {
		push(t, a, m, x)
		push(t, b, m, 100+x)
	}
	holds(t, a, m, 0, 1, 2, 3, 4, 5, 6, 7)
	holds(t, b, m, 100, 101, 102, 103, 104, 105, 106, 107)
}

// --- P10.2

func TestP102Example(t *testing.T) {
	m, _ := cells.New(16, 2)
	d, e := deque.New(m, 2, 0, 1)
	if d != (deque.Deque{At: 0, Most: 1}) || e != api.OK || m.Used() != 4 {
		t.Fatal(d, e, m.Used())
	}
	ended(t, d.Push(5), m, 0, deque.Done, 5, 0)
	ended(t, d.Push(6), m, 0, deque.Done, 9, 0)
	ended(t, d.Push(7), m, 0, deque.Full, 3, 0)
	s := d.Steal()
	for k, how := range []int{deque.Busy, deque.Busy, deque.Busy, deque.Seen, deque.Done} {
		if h := s.Step(m, 1); h != how || s.Err() != api.OK {
			t.Error(k, h, s.Err())
		}
		if want := int64(5); k < 3 && s.Got() != 0 || k >= 3 && s.Got() != want {
			t.Error(k, s.Got())
		}
	}
	holds(t, d, m, 6)
}

// TestP102Steps tells how many Steps each operation takes, and how it ends.
func TestP102Steps(t *testing.T) {
	m, d := fresh(t, 60, 2, 1, 3)
	for i, c := range []struct {
		o          *deque.Op
		how, steps int
		got        int64
		in         []int64
	}{
		{d.Pop(), deque.Empty, 5, 0, nil},
		{d.Steal(), deque.Empty, 2, 0, nil},
		{d.Push(1), deque.Done, 5, 0, []int64{1}},
		{d.Push(2), deque.Done, 5, 0, []int64{1, 2}},
		{d.Push(3), deque.Done, 11, 0, []int64{1, 2, 3}},
		{d.Push(4), deque.Done, 5, 0, []int64{1, 2, 3, 4}},
		{d.Push(5), deque.Done, 15, 0, []int64{1, 2, 3, 4, 5}},
		{d.Pop(), deque.Done, 5, 5, []int64{1, 2, 3, 4}},
		{d.Steal(), deque.Done, 5, 1, []int64{2, 3, 4}},
		{d.Push(0), deque.Done, 5, 0, []int64{2, 3, 4, 0}},
		{d.Push(6), deque.Done, 5, 0, []int64{2, 3, 4, 0, 6}},
		{d.Push(7), deque.Done, 5, 0, []int64{2, 3, 4, 0, 6, 7}},
		{d.Push(8), deque.Done, 5, 0, []int64{2, 3, 4, 0, 6, 7, 8}},
		{d.Push(9), deque.Done, 5, 0, []int64{2, 3, 4, 0, 6, 7, 8, 9}},
		{d.Push(10), deque.Full, 3, 0, []int64{2, 3, 4, 0, 6, 7, 8, 9}},
		{d.Push(10), deque.Full, 3, 0, []int64{2, 3, 4, 0, 6, 7, 8, 9}},
		{d.Steal(), deque.Done, 5, 2, []int64{3, 4, 0, 6, 7, 8, 9}},
		{d.Push(math.MinInt64), deque.Done, 5, 0, []int64{3, 4, 0, 6, 7, 8, 9, math.MinInt64}},
		{d.Pop(), deque.Done, 5, math.MinInt64, []int64{3, 4, 0, 6, 7, 8, 9}},
	} {
		before := m.Steps(1)
		if h, n := finish(t, c.o, m, 1); h != c.how || n != c.steps || c.o.Got() != c.got || c.o.Err() != api.OK || m.Steps(1) != before+n {
			t.Errorf("%d: %d, %d, %d, %v", i, h, n, c.o.Got(), c.o.Err())
		}
		holds(t, d, m, c.in...)
	}
}

// TestP102LastOne takes the last one by each of the two, and by both.
func TestP102LastOne(t *testing.T) {
	m, d := fresh(t, 20, 2, 0, 0)
	push(t, d, m, 4)
	ended(t, d.Pop(), m, 0, deque.Done, 7, 4)
	ended(t, d.Pop(), m, 0, deque.Empty, 5, 0)
	push(t, d, m, 6)
	ended(t, d.Steal(), m, 1, deque.Done, 5, 6)
	ended(t, d.Steal(), m, 1, deque.Empty, 2, 0)
	for thief := range 8 { // the thief is done behind so many Steps of the owner
		push(t, d, m, 8)
		o, s := d.Pop(), d.Steal()
		for range 3 {
			s.Step(m, 1)
		}
		if s.Step(m, 1) != deque.Seen || s.Got() != 8 {
			t.Fatal(thief, s.Got())
		}
		for range thief {
			o.Step(m, 0)
		}
		how := s.Step(m, 1)
		mine, n := finish(t, o, m, 0)
		if thief < 6 && (how != deque.Done || s.Got() != 8 || mine != deque.Empty || o.Got() != 0) {
			t.Error(thief, how, s.Got(), mine, o.Got(), n)
		}
		if thief >= 6 && (how != deque.Late || s.Got() != 0 || mine != deque.Done || o.Got() != 8) {
			t.Error(thief, how, s.Got(), mine, o.Got(), n)
		}
		holds(t, d, m)
	}
}

// TestP102Nil steps an operation that is none.
func TestP102Nil(t *testing.T) {
	var o *deque.Op
	m, _ := fresh(t, 20, 2, 0, 0)
	before := m.Clone()
	for _, w := range []int{-1, 0, 2, 3} {
		if o.Step(m, w) != deque.Broke || o.Step(nil, w) != deque.Broke || o.Got() != 0 || o.Err() != api.ErrNil {
			t.Error(w, o.Step(m, w), o.Got(), o.Err())
		}
	}
	if !cells.Same(m, before) {
		t.Error("an error changed something")
	}
}

// TestP102NotBegun looks at operations of which no Step was done: nothing of them is told, or turned.
func TestP102NotBegun(t *testing.T) {
	m, d := fresh(t, 20, 2, 0, 0)
	push(t, d, m, 3)
	before := m.Clone()
	for i, o := range []*deque.Op{d.Push(5), d.Pop(), d.Steal(), deque.Deque{At: -9}.Push(5), deque.Deque{At: math.MaxInt, Most: -1}.Pop()} {
		if o == nil || o.Got() != 0 || o.Err() != api.OK {
			t.Error(i, o == nil)
		}
	}
	if !cells.Same(m, before) {
		t.Error("something was done ahead of the first Step")
	}
}

// situations is ends that operations come to, each with as many Steps as it takes; begin makes it anew.
func situations(t *testing.T) []situation {
	prepared := func(in int, make func(d deque.Deque) *deque.Op) func() (*cells.Machine, *deque.Op) {
		return func() (*cells.Machine, *deque.Op) {
			m, d := fresh(t, 30, 2, 0, 2)
			for x := range in {
				push(t, d, m, int64(50+x))
			}
			return m, make(d)
		}
	}
	put := func(d deque.Deque) *deque.Op { return d.Push(9) }
	return []situation{
		{prepared(0, put), deque.Done, 5, 0},
		{prepared(1, put), deque.Done, 9, 0},
		{prepared(2, put), deque.Done, 11, 0},
		{prepared(3, put), deque.Done, 5, 0},
		{prepared(4, put), deque.Full, 3, 0},
		{prepared(0, deque.Deque.Pop), deque.Empty, 5, 0},
		{prepared(1, deque.Deque.Pop), deque.Done, 7, 50},
		{prepared(2, deque.Deque.Pop), deque.Done, 5, 51},
		{prepared(0, deque.Deque.Steal), deque.Empty, 2, 0},
		{prepared(2, deque.Deque.Steal), deque.Done, 5, 50},
	}
}

type situation struct {
	begin      func() (*cells.Machine, *deque.Op)
	how, steps int
	got        int64
}

// TestP102Ended steps operations that are ended: nothing is done any more, and the same is told.
func TestP102Ended(t *testing.T) {
	for i, s := range situations(t) {
		m, o := s.begin()
		ended(t, o, m, 0, s.how, s.steps, s.got)
		before := m.Clone()
		for _, w := range []int{0, 1, 2, -1, 3, math.MaxInt} {
			if o.Step(m, w) != s.how || o.Step(nil, w) != s.how || o.Got() != s.got || o.Err() != api.OK {
				t.Error(i, w, o.Step(m, w), o.Got(), o.Err())
			}
		}
		if !cells.Same(m, before) {
			t.Errorf("%d: a Step behind the end", i)
		}
	}
}

// TestP102Refused lets one who is no caller, or a machine that is none, do each Step of each operation: it is Broke, and stays so.
func TestP102Refused(t *testing.T) {
	for i, s := range situations(t) {
		for k := range s.steps {
			for _, w := range []int{-1, 3, math.MinInt, math.MaxInt, 0} {
				m, o := s.begin()
				for range k {
					o.Step(m, 0)
				}
				before, with, e := m.Clone(), m, api.ErrRange
				if w == 0 {
					with, e = nil, api.ErrNil
				}
				for _, again := range []*cells.Machine{with, m, nil, m} {
					if how := o.Step(again, w); how != deque.Broke || o.Got() != 0 || o.Err() != e {
						t.Fatalf("%d, Step %d of %d: %d, %d, %v", i, k+1, w, how, o.Got(), o.Err())
					}
				}
				if o.Step(m, 0) != deque.Broke || !cells.Same(m, before) {
					t.Fatalf("%d, Step %d of %d: something was done", i, k+1, w)
				}
			}
		}
	}
}

// TestP102NoCells steps operations of deques whose cells are not given away.
func TestP102NoCells(t *testing.T) {
	m, _ := fresh(t, 20, 2, 0, 0)
	before := m.Clone()
	for _, at := range []int{-9, -4, m.Used(), 20, 1 << 40, math.MinInt, math.MaxInt, math.MaxInt - 1} {
		d := deque.Deque{At: at, Most: 3}
		for i, o := range []*deque.Op{d.Push(1), d.Pop(), d.Steal()} {
			if how, n := finish(t, o, m, 0); how != deque.Broke || n != 1 || o.Got() != 0 || o.Err() != api.ErrRange {
				t.Error(at, i, how, n, o.Got(), o.Err())
			}
		}
		holds(t, d, m)
	}
	if !cells.Same(m, before) {
		t.Error("an error changed something")
	}
}

// TestP102NoRing grows beyond what a ring may be, and looks for a ring of a word that is none's.
func TestP102NoRing(t *testing.T) {
	m, d := fresh(t, 2000, 1, 0, 8)
	all := make([]int64, 256)
	for i := range all {
		all[i] = int64(i)
		push(t, d, m, int64(i))
	}
	ended(t, d.Push(256), m, 0, deque.Full, 3, 0)
	before := m.Clone()
	o := deque.Deque{At: d.At, Most: math.MaxInt}.Push(256)
	for range 3 {
		if how := o.Step(m, 0); how != deque.Busy {
			t.Fatal(how)
		}
		before.Load(0, 0)
	}
	if how := o.Step(m, 0); how != deque.Broke || o.Err() != api.ErrRange || !cells.Same(m, before) {
		t.Error(how, o.Err())
	}
	holds(t, d, m, all...)
	m.Store(0, 2, 9)
	for i, o := range []*deque.Op{d.Push(1), d.Pop(), d.Steal()} {
		if how, _ := finish(t, o, m, 0); how != deque.Broke || o.Err() != api.ErrForm || o.Got() != 0 {
			t.Error(i, how, o.Err(), o.Got())
		}
	}
	holds(t, d, m)
}

// TestP102MostIsLess pushes into a ring that is greater already than it might grow to: it is Full only once there is no place left.
func TestP102MostIsLess(t *testing.T) {
	for _, most := range []int{2, 1, 0, -1, math.MinInt} {
		m, d := fresh(t, 60, 2, 2, 2)
		d.Most = most
		push(t, d, m, 1, 2, 3, 4)
		ended(t, d.Push(5), m, 0, deque.Full, 3, 0)
		holds(t, d, m, 1, 2, 3, 4)
	}
}

// TestP102NoRoom grows where too few cells are left: what was in it stays, and it is as before.
func TestP102NoRoom(t *testing.T) {
	for log := range 5 {
		n := size(log)
		m, d := fresh(t, 3+n+2*n-1, 2, log, 8)
		var in []int64
		for x := range n {
			in = append(in, int64(x))
		}
		push(t, d, m, in...)
		o := d.Push(99)
		if how, steps := finish(t, o, m, 0); how != deque.Broke || steps != 4 || o.Err() != api.ErrArena || o.Got() != 0 {
			t.Error(log, how, steps, o.Err())
		}
		holds(t, d, m, in...)
		ended(t, d.Steal(), m, 1, deque.Done, 5, 0)
		ended(t, d.Push(98), m, 0, deque.Done, 5, 0)
		holds(t, d, m, append(in[1:], 98)...)
	}
}

// TestP102Whose lets another worker do each Step, in another machine each time: the operation is of the machine, and the worker, of the Step.
func TestP102Whose(t *testing.T) {
	m, d := fresh(t, 30, 3, 0, 2)
	push(t, d, m, 5)
	n := m.Clone()
	o := d.Push(6)
	for k := range 9 {
		w := k % 4
		here, there := m, n
		if k%2 == 1 {
			here, there = n, m
		}
		before, steps := there.Clone(), [4]int{here.Steps(0), here.Steps(1), here.Steps(2), here.Steps(3)}
		if k == 3 {
			m.Alloc(0, 2) // else the new ring's cells are there in one of them alone
			before = there.Clone()
		}
		o.Step(here, w)
		steps[w]++
		if steps != [4]int{here.Steps(0), here.Steps(1), here.Steps(2), here.Steps(3)} || !cells.Same(there, before) {
			t.Fatalf("Step %d: not one operation of %d", k+1, w)
		}
	}
	if o.Err() != api.OK || m.Peek(1) != 2 || n.Peek(1) != 1 || n.Peek(5) != 6 {
		t.Error(o.Err(), m.Peek(1), n.Peek(1), n.Peek(5))
	}
}

// TestP102Others steps operations beside Stores of whatever: what they tell is not said, but they end, and so does List.
func TestP102Others(t *testing.T) {
	upTo := numbers()
	odd := []int64{0, 1, -1, 2, 3, 48, 49, 52, 56, 16*40 + 3, 9, math.MaxInt64, math.MinInt64, math.MaxInt64 - 1, math.MinInt64 + 1, 1 << 40}
	for run := range 20000 {
		m, d := fresh(t, 1000, 2, upTo(3), 2+upTo(7))
		for at := range 3 {
			if upTo(3) > 0 {
				m.Store(2, at, odd[upTo(len(odd))])
			}
		}
		d.Most += upTo(3) * 10
		o := []*deque.Op{d.Push(1), d.Pop(), d.Steal()}[upTo(3)]
		for k := 0; ; k++ {
			if how := o.Step(m, 0); how != deque.Busy && how != deque.Seen {
				break
			}
			if k > 600 {
				t.Fatalf("run %d: no end", run)
			}
			if upTo(4) == 0 {
				m.Store(1, upTo(m.Used()), odd[upTo(len(odd))])
			}
			if l := d.List(m); len(l) > 256 {
				t.Fatalf("run %d: %d are in it", run, len(l))
			}
		}
	}
}

// --- The tables, written apart: rows by their numbers.

const (
	pushes = iota
	pops
	steals
)

// reading is an operation as the chapter's tables tell it.
type reading struct {
	kind, row     int // the row that is next; 0: ended
	d             deque.Deque
	x             int64 // of a Push
	t, b          int64
	ring, wide    ring.Ring
	copied        int64 // how many places
	loaded, won   bool
	number, taken int64
	how           int
	got           int64
	err           api.Errno
}

// cell is the cell of a place of a ring.
func cell(r ring.Ring, i int64) int {
	n := int64(size(r.Log))
	return r.At + int((i%n+n)%n)
}

// word is a ring of a word that is one's.
func word(w int64) ring.Ring { return ring.Ring{At: int(w / 16), Log: int(w % 16)} }

// step does the next row.
func (o *reading) step(m *cells.Machine, w int) int {
	if o.row == 0 {
		return o.how
	}
	var e api.Errno
	switch o.kind {
	case pushes:
		e = o.push(m, w)
	case pops:
		e = o.pop(m, w)
	default:
		e = o.steal(m, w)
	}
	if e != api.OK {
		o.row, o.how, o.got, o.err = 0, deque.Broke, 0, e
	}
	return o.how
}

// end ends it.
func (o *reading) end(how int, got int64) { o.row, o.how, o.got = 0, how, got }

func (o *reading) push(m *cells.Machine, w int) (e api.Errno) {
	var x int64
	switch o.row++; o.row - 1 {
	case 1:
		o.b, e = m.Load(w, o.d.At+1)
	case 2:
		o.t, e = m.Load(w, o.d.At)
	case 3:
		x, e = m.Load(w, o.d.At+2)
		o.ring = word(x)
		if o.b-o.t < int64(size(o.ring.Log)) {
			o.row = 7
		} else if o.ring.Log >= o.d.Most {
			o.end(deque.Full, 0)
		}
	case 4:
		at := 0
		at, e = m.Alloc(w, size(o.ring.Log+1))
		o.wide = ring.Ring{At: at, Log: o.ring.Log + 1}
	case 5:
		o.row = 5
		if !o.loaded {
			o.number, e = m.Load(w, cell(o.ring, o.t+o.copied))
			o.loaded = true
			return e
		}
		e = m.Store(w, cell(o.wide, o.t+o.copied), o.number)
		o.loaded = false
		if o.copied++; o.t+o.copied == o.b {
			o.row = 6
		}
	case 6:
		o.ring = o.wide
		e = m.Store(w, o.d.At+2, int64(16*o.ring.At+o.ring.Log))
	case 7:
		e = m.Store(w, cell(o.ring, o.b), o.x)
	case 8:
		e = m.Store(w, o.d.At+1, o.b+1)
		o.end(deque.Done, 0)
	}
	return e
}

func (o *reading) pop(m *cells.Machine, w int) (e api.Errno) {
	var x int64
	switch o.row++; o.row - 1 {
	case 1:
		o.b, e = m.Load(w, o.d.At+1)
	case 2:
		x, e = m.Load(w, o.d.At+2)
		o.ring = word(x)
	case 3:
		e = m.Store(w, o.d.At+1, o.b-1)
	case 4:
		o.t, e = m.Load(w, o.d.At)
		if o.t <= o.b-1 {
			o.row = 6
		}
	case 5:
		e = m.Store(w, o.d.At+1, o.b)
		o.end(deque.Empty, 0)
	case 6:
		o.taken, e = m.Load(w, cell(o.ring, o.b-1))
		if o.t < o.b-1 {
			o.end(deque.Done, o.taken)
		}
	case 7:
		o.won, e = m.CAS(w, o.d.At, o.t, o.t+1)
	case 8:
		e = m.Store(w, o.d.At+1, o.b)
		if o.won {
			o.end(deque.Done, o.taken)
		} else {
			o.end(deque.Empty, 0)
		}
	}
	return e
}

func (o *reading) steal(m *cells.Machine, w int) (e api.Errno) {
	var x int64
	switch o.row++; o.row - 1 {
	case 1:
		o.t, e = m.Load(w, o.d.At)
	case 2:
		o.b, e = m.Load(w, o.d.At+1)
		if o.b <= o.t {
			o.end(deque.Empty, 0)
		}
	case 3:
		x, e = m.Load(w, o.d.At+2)
		o.ring = word(x)
	case 4:
		o.got, e = m.Load(w, cell(o.ring, o.t))
		o.how = deque.Seen
	case 5:
		if o.won, e = m.CAS(w, o.d.At, o.t, o.t+1); o.won {
			o.end(deque.Done, o.got)
		} else {
			o.end(deque.Late, 0)
		}
	}
	return e
}

// TestP102Tables holds operations of one owner, and thieves, in whatever order, against the tables: how each stands behind each Step, and what it turned.
func TestP102Tables(t *testing.T) {
	upTo := numbers()
	counts := map[int]int{}
	for run := range 3000 {
		log := upTo(3)
		m, d := fresh(t, 3+size(log)+upTo(60), 4, log, log+upTo(4))
		want := m.Clone()
		var ops [4]*deque.Op
		var rows [4]*reading
		for k := range 250 {
			w := upTo(4)
			if ops[w] == nil {
				ops[w], rows[w] = next(d, w, upTo, int64(run*1000+k))
			}
			caller := w
			if upTo(400) == 0 {
				caller = -1
			}
			o, r := ops[w], rows[w]
			how, asked := o.Step(m, caller), r.step(want, caller)
			if how != asked || o.Got() != r.got || o.Err() != r.err || !cells.Same(m, want) {
				t.Fatalf("run %d, Step %d, of %d: %d, %d, %v, not %d, %d, %v", run, k, w, how, o.Got(), o.Err(), asked, r.got, r.err)
			}
			if r.row == 0 {
				counts[10*r.kind+how]++
				ops[w] = nil
			}
			if r.err != api.OK && w == 0 { // the owner's was not ended: what is in it then is not told
				break
			}
		}
	}
	for _, c := range []int{deque.Done, deque.Full, deque.Broke, 10 + deque.Done, 10 + deque.Empty, 10 + deque.Broke, 20 + deque.Done, 20 + deque.Empty, 20 + deque.Late, 20 + deque.Broke} {
		if counts[c] < 100 {
			t.Errorf("operation and end %d: only %d times", c, counts[c])
		}
	}
}

// next is what the owner, or a thief, does next, and its reading.
func next(d deque.Deque, w int, upTo func(int) int, x int64) (*deque.Op, *reading) {
	switch {
	case w > 0:
		return d.Steal(), &reading{kind: steals, row: 1, d: d}
	case upTo(5) < 3:
		return d.Push(x), &reading{kind: pushes, row: 1, d: d, x: x}
	}
	return d.Pop(), &reading{kind: pops, row: 1, d: d}
}

// --- P10.3

// under is an operation that is under way.
type under struct {
	o      *deque.Op
	kind   int
	x      int64
	steps  int
	top    int64 // ahead of its first Step
	before int   // how much was in it then
	looked int   // and as it looked at the top
	seen   int64
}

// world is an owner, worker 0, and thieves, and what should be in their deque.
type world struct {
	t     *testing.T
	m     *cells.Machine
	d     deque.Deque
	in    []int64
	ops   []*under
	story []int // whose Steps came, in order
	made  int64
	ends  map[int]int // how often operations ended so: 10 times the kind, and how
}

// begin lets a worker begin an operation.
func (r *world) begin(w, kind int) {
	u := &under{kind: kind}
	switch kind {
	case pushes:
		r.made++
		u.x = r.made
		u.o = r.d.Push(u.x)
	case pops:
		u.o = r.d.Pop()
	default:
		u.o = r.d.Steal()
	}
	r.ops[w] = u
}

// wrong tells what went wrong, and in which order.
func (r *world) wrong(what string) {
	r.t.Helper()
	r.t.Fatalf("%s: Steps of %v; %v should be in it, and is %v", what, r.story, r.in, r.d.List(r.m))
}

// step lets a worker do a Step, and looks at what comes of it; whether its operation is ended.
func (r *world) step(w int) bool {
	r.t.Helper()
	u := r.ops[w]
	if u.steps == 0 {
		u.top, u.before = r.m.Peek(r.d.At), len(r.d.List(r.m))
	}
	if u.kind == pushes && u.steps == 1 {
		u.looked = len(r.d.List(r.m))
	}
	r.story = append(r.story, w)
	before := r.turned()
	how := u.o.Step(r.m, w)
	u.steps++
	switch u.kind {
	case pushes:
		r.pushed(u, how)
	case pops:
		r.popped(u, how)
	default:
		r.stolen(u, how, slices.Equal(before, r.turned()))
	}
	if how == deque.Busy || how == deque.Seen {
		return false
	}
	r.ends[10*u.kind+how]++
	r.ops[w] = nil
	return true
}

// turned is the numbers of the deque's own cells.
func (r *world) turned() []int64 {
	return []int64{r.m.Peek(r.d.At), r.m.Peek(r.d.At + 1), r.m.Peek(r.d.At + 2), int64(r.m.Used())}
}

func (r *world) pushed(u *under, how int) {
	r.t.Helper()
	most := size(r.d.Most)
	switch {
	case how == deque.Done && u.before == most && u.looked == most:
		r.wrong("pushed, though there were too many")
	case how == deque.Done:
		r.in = append(r.in, u.x)
	case how == deque.Full && (u.before != most || u.looked != most):
		r.wrong("Full, though there was room")
	case how != deque.Busy && how != deque.Full:
		r.wrong("a Push that came to something else")
	}
}

func (r *world) popped(u *under, how int) {
	r.t.Helper()
	last := len(r.in) - 1
	switch {
	case how == deque.Done && (last < 0 || r.in[last] != u.o.Got()):
		r.wrong("popped, and not the last one")
	case how == deque.Done:
		r.in = r.in[:last]
	case how == deque.Empty && last >= 0:
		r.wrong("Empty, and it is not")
	case how != deque.Busy && how != deque.Empty:
		r.wrong("a Pop that came to something else")
	}
}

func (r *world) stolen(u *under, how int, same bool) {
	r.t.Helper()
	switch how {
	case deque.Busy, deque.Seen, deque.Late, deque.Empty:
		if !same {
			r.wrong("a thief who took nothing has turned something")
		}
	}
	switch {
	case how == deque.Seen:
		u.seen = u.o.Got()
	case how == deque.Done && (len(r.in) == 0 || r.in[0] != u.o.Got() || u.seen != u.o.Got()):
		r.wrong("stolen, and not the first one")
	case how == deque.Done:
		r.in = r.in[1:]
	case how == deque.Late && r.m.Peek(r.d.At) == u.top:
		r.wrong("Late, and nobody was there")
	case how == deque.Empty && len(r.d.List(r.m)) > 0:
		r.wrong("nothing to steal, though there is")
	case how != deque.Busy && how != deque.Late && how != deque.Empty:
		r.wrong("a Steal that came to something else")
	}
}

// quiet holds what is in the deque against what should be, if the owner does nothing.
func (r *world) quiet() {
	r.t.Helper()
	if r.ops[0] == nil && !slices.Equal(r.in, r.d.List(r.m)) {
		r.wrong("not what was pushed, and not taken")
	}
}

// plan is what each one does, the owner first.
type plan struct {
	log, most, in int
	does          [][]int
}

// orders goes through all orders in which the Steps of a plan may come.
func orders(t *testing.T, p plan, ends map[int]int) int {
	t.Helper()
	var chosen, wide []int // at each Step: which one of those that were not done, and how many there were
	for n := 1; ; n++ {
		r := planned(t, p, ends)
		left := make([][]int, len(p.does))
		copy(left, p.does)
		for k := 0; ; k++ {
			var may []int
			for w := range left {
				if r.ops[w] != nil || len(left[w]) > 0 {
					may = append(may, w)
				}
			}
			if len(may) == 0 {
				break
			}
			if k == len(chosen) {
				chosen, wide = append(chosen, 0), append(wide, 0)
			}
			wide[k] = len(may)
			w := may[chosen[k]]
			if r.ops[w] == nil {
				r.begin(w, left[w][0])
				left[w] = left[w][1:]
			}
			r.step(w)
			r.quiet()
		}
		k := len(r.story) - 1
		for k >= 0 && chosen[k] == wide[k]-1 {
			k--
		}
		if k < 0 {
			return n
		}
		chosen, wide = chosen[:k+1], wide[:k+1]
		chosen[k]++
	}
}

// planned is the world of a plan, ahead of all.
func planned(t *testing.T, p plan, ends map[int]int) *world {
	m, d := fresh(t, 20+size(p.most+2), len(p.does), p.log, p.most)
	r := &world{t: t, m: m, d: d, ops: make([]*under, len(p.does)), ends: ends}
	for range p.in {
		r.begin(0, pushes)
		for !r.step(0) {
		}
		r.quiet()
	}
	r.story = nil
	return r
}

// TestP103AllOrders goes through all orders of some plans.
func TestP103AllOrders(t *testing.T) {
	ends, n := map[int]int{}, 0
	for _, p := range []plan{
		{0, 0, 0, [][]int{{pushes, pops}, {steals}}},
		{0, 0, 0, [][]int{{pushes, pushes}, {steals}}},
		{0, 0, 1, [][]int{{pops}, {steals, steals}}},
		{0, 0, 1, [][]int{{pops, pushes}, {steals, steals}}},
		{0, 0, 1, [][]int{{pushes, pops}, {steals}}},
		{0, 1, 1, [][]int{{pushes, pops, pops}, {steals}}},
		{0, 1, 1, [][]int{{pushes}, {steals, steals}}},
		{0, 1, 2, [][]int{{pushes, pops}, {steals}}},
		{0, 1, 2, [][]int{{pops, pops}, {steals, steals}}},
		{1, 2, 2, [][]int{{pushes, pops}, {steals}}},
		{0, 0, 1, [][]int{{pushes}, {steals}, {steals}}},
	} {
		n += orders(t, p, ends)
	}
	for _, c := range []int{deque.Done, deque.Full, 10 + deque.Done, 10 + deque.Empty, 20 + deque.Done, 20 + deque.Empty, 20 + deque.Late} {
		if ends[c] == 0 {
			t.Errorf("of %d orders none lets an operation end so: %d", n, c)
		}
	}
}

// TestP103ManyThieves goes through some orders of long runs, beside many thieves, some of whom are seldom picked.
func TestP103ManyThieves(t *testing.T) {
	upTo, ends := numbers(), map[int]int{}
	for range 3000 {
		p := plan{log: upTo(2), does: make([][]int, 1+upTo(api.MaxWorkers))}
		p.most = p.log + upTo(4)
		r, likes := planned(t, p, ends), 1+upTo(5)
		slow := 2 + upTo(6)
		for range 300 {
			w := upTo(len(p.does) + 3) // the owner as often as four of them
			if w >= len(p.does) {
				w = 0
			}
			if w > 0 && w%2 == 0 && upTo(slow) > 0 {
				continue
			}
			switch {
			case r.ops[w] != nil:
			case w > 0:
				r.begin(w, steals)
			case upTo(6) < likes:
				r.begin(w, pushes)
			default:
				r.begin(w, pops)
			}
			r.step(w)
			r.quiet()
		}
	}
	for _, c := range []int{deque.Done, deque.Full, 10 + deque.Done, 10 + deque.Empty, 20 + deque.Done, 20 + deque.Empty, 20 + deque.Late} {
		if ends[c] < 100 {
			t.Errorf("only %d operations ended so: %d", ends[c], c)
		}
	}
}

// TestP103Seen lets a thief who has Seen go no further: all is as without it.
func TestP103Seen(t *testing.T) {
	m, d := fresh(t, 60, 2, 0, 3)
	push(t, d, m, 1, 2, 3)
	n := m.Clone()
	s := d.Steal()
	for range 4 {
		s.Step(m, 1)
	}
	for at := range m.Used() {
		if m.Peek(at) != n.Peek(at) {
			t.Errorf("cell %d turned", at)
		}
	}
	for _, make := range []func() *deque.Op{d.Pop, func() *deque.Op { return d.Push(7) }, d.Pop, d.Steal, d.Pop, d.Pop} {
		a, b := make(), make()
		how, steps := finish(t, a, m, 0)
		ended(t, b, n, 0, how, steps, a.Got())
		holds(t, d, m, d.List(n)...)
	}
	if s.Got() != 1 || s.Step(m, 1) != deque.Late || s.Got() != 0 {
		t.Error(s.Got())
	}
}

// TestP103OldRing lets a thief look into a ring from which the owner has grown away.
func TestP103OldRing(t *testing.T) {
	m, d := fresh(t, 60, 2, 0, 3)
	push(t, d, m, 1)
	s := d.Steal()
	for range 3 {
		s.Step(m, 1)
	}
	push(t, d, m, 2, 3, 4, 5)
	if s.Step(m, 1) != deque.Seen || s.Got() != 1 || s.Step(m, 1) != deque.Done || s.Got() != 1 {
		t.Error(s.Got())
	}
	holds(t, d, m, 2, 3, 4, 5)
}

// TestP103FullNoMore lets a thief take one ahead of a Push's look, and behind it.
func TestP103FullNoMore(t *testing.T) {
	for steps, how := range []int{deque.Done, deque.Done, deque.Full} {
		m, d := fresh(t, 20, 2, 1, 1)
		push(t, d, m, 1, 2)
		o := d.Push(3)
		for range steps {
			o.Step(m, 0)
		}
		ended(t, d.Steal(), m, 1, deque.Done, 5, 1)
		if h, _ := finish(t, o, m, 0); h != how {
			t.Errorf("stolen behind %d Steps: %d", steps, h)
		}
	}
}
