package idle_test

import (
	"math"
	"slices"
	"strconv"
	"testing"

	"peloton/api"
	"peloton/cells"
	"peloton/idle"
)

// numbers is a row of numbers that is the same each time.
func numbers() func(n int) int {
	seed := uint32(12)
	return func(n int) int {
		seed = seed*1664525 + 1013904223
		return int(seed>>8) % n
	}
}

// wide is a row of numbers of 64 bits: such with few bits, with half of them, and with nearly all.
func wide() func() int64 {
	next := numbers()
	one := func() uint64 { return uint64(next(1<<22))<<44 ^ uint64(next(1<<22))<<22 ^ uint64(next(1<<22)) }
	return func() int64 {
		x := one()
		switch next(3) {
		case 0:
			x &= one() & one() & one()
		case 1:
			x |= one() | one() | one()
		}
		return int64(x)
	}
}

// digits reads the workers among bits from the number as it is written in base 2, which is no shifting of the program's.
func digits(bits int64) []int {
	var l []int
	s := strconv.FormatUint(uint64(bits), 2)
	for i := range s {
		if s[len(s)-1-i] == '1' {
			l = append(l, i)
		}
	}
	return l
}

// far is numbers that no worker has.
var far = []int{math.MinInt, math.MinInt + 1, -1 << 32, -128, -65, -64, -63, -2, -1, 64, 65, 127, 128, 1 << 32, 1<<32 + 1, 1 << 62, math.MaxInt}

// edges is bits at the edges.
var edges = []int64{0, 1, 2, 3, 7, 21, -1, -2, math.MinInt64, math.MinInt64 + 1, math.MaxInt64, math.MaxInt64 - 1, 1 << 62, -1 << 62, 1<<62 - 1, 1 << 31, 1 << 32, 1<<32 - 1, -1 << 32}

// fresh is a machine, and a set in it, ahead of which so many cells are given away.
func fresh(t *testing.T, size, workers, ahead int) (*cells.Machine, idle.Set) {
	t.Helper()
	m, e := cells.New(size, workers)
	if e != api.OK {
		t.Fatal(e)
	}
	if ahead > 0 {
		m.Alloc(workers, ahead)
	}
	s, e := idle.New(m, workers)
	if s != (idle.Set{At: ahead}) || e != api.OK {
		t.Fatal(s, e)
	}
	return m, s
}

// --- P12.1

func TestP121Example(t *testing.T) {
	if n := idle.Count(21); n != 3 {
		t.Error(n)
	}
	if l := slices.Collect(idle.Members(21)); !slices.Equal(l, []int{0, 2, 4}) {
		t.Error(l)
	}
	if w := idle.First(21, 5); w != 1 {
		t.Error(w)
	}
	if w := idle.First(7, 3); w != -1 {
		t.Error(w)
	}
}

// TestP121Alone has each worker alone among bits, and each alone not among them.
func TestP121Alone(t *testing.T) {
	for w := range 64 {
		only := int64(1) << w
		if !slices.Equal(slices.Collect(idle.Members(only)), []int{w}) || idle.Count(only) != 1 || idle.Count(^only) != 63 {
			t.Errorf("%d alone", w)
		}
		if slices.Contains(slices.Collect(idle.Members(^only)), w) || idle.First(^only, 64) != w || idle.First(^only, w) != -1 || idle.First(^only, w+1) != w {
			t.Errorf("all but %d", w)
		}
		for v := range 64 {
			if idle.Has(only, v) != (v == w) || idle.Has(^only, v) == (v == w) {
				t.Errorf("%d alone: %d", w, v)
			}
		}
	}
	if !idle.Has(math.MinInt64, 63) || idle.Has(math.MaxInt64, 63) || !idle.Has(-1, 63) {
		t.Error("63 is among numbers below 0")
	}
}

// TestP121All holds all calls against the digits of numbers.
func TestP121All(t *testing.T) {
	next, all := wide(), slices.Clone(edges)
	for range 3000 {
		all = append(all, next())
	}
	for _, bits := range all {
		l := digits(bits)
		if got := slices.Collect(idle.Members(bits)); !slices.Equal(got, l) {
			t.Fatalf("Members of %d: %v, not %v", bits, got, l)
		}
		if got := idle.Count(bits); got != len(l) {
			t.Fatalf("Count of %d: %d, not %d", bits, got, len(l))
		}
		for w := -2; w < 67; w++ {
			if idle.Has(bits, w) != slices.Contains(l, w) {
				t.Fatalf("Has of %d, %d: %v", bits, w, !slices.Contains(l, w))
			}
		}
		least := 0
		for slices.Contains(l, least) {
			least++
		}
		for n := -2; n < 67; n++ {
			want := least
			if least >= n || least > 63 {
				want = -1
			}
			if got := idle.First(bits, n); got != want {
				t.Fatalf("First of %d, %d: %d, not %d", bits, n, got, want)
			}
		}
	}
}

// TestP121Far asks for workers whom there are not, and for the first of so many of them, or of fewer than none.
func TestP121Far(t *testing.T) {
	for _, bits := range edges {
		for _, n := range far {
			if idle.Has(bits, n) {
				t.Errorf("%d is among %d", n, bits)
			}
			want := -1
			if n > 0 {
				want = idle.First(bits, 64)
			}
			if got := idle.First(bits, n); got != want {
				t.Errorf("First of %d, %d: %d, not %d", bits, n, got, want)
			}
		}
	}
	if idle.First(-1, math.MaxInt) != -1 || idle.First(0, math.MaxInt) != 0 || idle.First(math.MaxInt64, math.MaxInt) != 63 {
		t.Error("of all that there may be")
	}
}

// TestP121Breaks ends a range over Members behind each of them: nothing more is told then.
func TestP121Breaks(t *testing.T) {
	for _, bits := range edges {
		want := digits(bits)
		for n := range want {
			told := 0
			idle.Members(bits)(func(w int) bool {
				if w != want[told] {
					t.Errorf("%d: %d, not %d", bits, w, want[told])
				}
				told++
				return told <= n
			})
			if told != n+1 {
				t.Errorf("%d: %d were told, not %d", bits, told, n+1)
			}
		}
	}
}

// TestP121Again ranges over the same Members again, and within itself.
func TestP121Again(t *testing.T) {
	all := idle.Members(-1 << 61)
	var pairs [][2]int
	for v := range all {
		for w := range all {
			pairs = append(pairs, [2]int{v, w})
		}
	}
	want := [][2]int{{61, 61}, {61, 62}, {61, 63}, {62, 61}, {62, 62}, {62, 63}, {63, 61}, {63, 62}, {63, 63}}
	if !slices.Equal(pairs, want) {
		t.Error(pairs)
	}
	if l := slices.Collect(all); !slices.Equal(l, []int{61, 62, 63}) {
		t.Error(l)
	}
}

func TestP121Nobody(t *testing.T) {
	all := idle.Members(0)
	if all == nil {
		t.Fatal("a nil function")
	}
	for w := range all {
		t.Error(w)
	}
	if idle.Count(0) != 0 || idle.First(0, 1) != 0 || idle.First(0, 0) != -1 {
		t.Error("nobody")
	}
}

// --- P12.2

func TestP122Example(t *testing.T) {
	m, _ := cells.New(1, 2)
	s, e := idle.New(m, 0)
	if s != (idle.Set{}) || e != api.OK {
		t.Fatal(s, e)
	}
	if s.Enter(m, 2) != api.OK || s.Enter(m, 0) != api.OK || s.Leave(m, 2) != api.OK {
		t.Error("refused")
	}
	if bits, e := s.Read(m, 1); bits != 1 || e != api.OK {
		t.Error(bits, e)
	}
}

func TestP122New(t *testing.T) {
	for w := range 4 {
		m, _ := cells.New(3, 3)
		for at := range 3 {
			want := m.Clone()
			want.Alloc(w, 1)
			s, e := idle.New(m, w)
			if s != (idle.Set{At: at}) || e != api.OK || !cells.Same(m, want) {
				t.Errorf("New of %d: %v, %v", w, s, e)
			}
			if bits, e := s.Read(m, w); bits != 0 || e != api.OK {
				t.Error("somebody is in a new one", bits, e)
			}
		}
		before := m.Clone()
		if s, e := idle.New(m, w); s != (idle.Set{}) || e != api.ErrArena || !cells.Same(m, before) {
			t.Error("without room", s, e)
		}
	}
}

func TestP122NewErrors(t *testing.T) {
	full, _ := fresh(t, 1, 1, 0)
	m, _ := fresh(t, 5, 2, 2)
	most, _ := fresh(t, 5, api.MaxWorkers, 2)
	for i, c := range []struct {
		m *cells.Machine
		w int
		e api.Errno
	}{
		{nil, 0, api.ErrNil}, {nil, -1, api.ErrNil}, {nil, 99, api.ErrNil},
		{m, -1, api.ErrRange}, {m, 3, api.ErrRange}, {m, math.MinInt, api.ErrRange}, {m, math.MaxInt, api.ErrRange},
		{most, api.MaxWorkers + 1, api.ErrRange},
		{full, 0, api.ErrArena}, {full, 1, api.ErrArena}, {full, 2, api.ErrRange},
	} {
		before := c.m.Clone()
		if s, e := idle.New(c.m, c.w); s != (idle.Set{}) || e != c.e || !cells.Same(c.m, before) {
			t.Errorf("%d: %v, %v", i, s, e)
		}
	}
	if s, e := idle.New(m, 0); s != (idle.Set{At: 3}) || e != api.OK {
		t.Error("what was refused took a cell", s, e)
	}
}

// TestP122Last makes a set of the last cell that there may be, into which all callers go that there may be.
func TestP122Last(t *testing.T) {
	m, s := fresh(t, api.MaxCells, api.MaxWorkers, api.MaxCells-1)
	for w := range api.MaxWorkers + 1 {
		if e := s.Enter(m, w); e != api.OK || s.Peek(m) != 1<<(w+1)-1 {
			t.Error(w, e, s.Peek(m))
		}
	}
	for w := range api.MaxWorkers + 1 {
		if e := s.Leave(m, w); e != api.OK || s.Peek(m) != 1<<(api.MaxWorkers+1)-1<<(w+1) {
			t.Error(w, e, s.Peek(m))
		}
	}
}

// power is 2^w, by doubling.
func power(w int) int64 {
	if w == 0 {
		return 1
	}
	return 2 * power(w-1)
}

// TestP122Operations holds each call against the machine's own operation, whatever stands in the cell: who is in enters as well, and who is not leaves.
func TestP122Operations(t *testing.T) {
	next, number := numbers(), wide()
	m, s := fresh(t, 9, api.MaxWorkers, 4)
	m.Alloc(0, 2)
	stands := slices.Clone(edges)
	for range 300 {
		stands = append(stands, number())
	}
	for _, x := range stands {
		m.Store(0, 4, x)
		for range 30 {
			w, want := next(api.MaxWorkers+1), m.Clone()
			switch next(3) {
			case 0:
				want.Add(w, 4, power(w))
				if e := s.Enter(m, w); e != api.OK {
					t.Fatalf("Enter of %d: %v", w, e)
				}
			case 1:
				want.Add(w, 4, -power(w))
				if e := s.Leave(m, w); e != api.OK {
					t.Fatalf("Leave of %d: %v", w, e)
				}
			case 2:
				bits, _ := want.Load(w, 4)
				if got, e := s.Read(m, w); got != bits || e != api.OK {
					t.Fatalf("Read of %d: %d, %v, not %d", w, got, e, bits)
				}
			}
			if !cells.Same(m, want) {
				t.Fatalf("the machine is not as it should be behind a call of %d", w)
			}
		}
	}
}

// TestP122Refused refuses calls: nothing of the machine is turned.
func TestP122Refused(t *testing.T) {
	m, s := fresh(t, 9, 2, 4)
	most, _ := fresh(t, 9, api.MaxWorkers, 4)
	m.Store(0, 4, 7)
	most.Store(0, 4, 7)
	type try struct {
		s idle.Set
		m *cells.Machine
		w int
		e api.Errno
	}
	tries := []try{
		{s, nil, 0, api.ErrNil}, {s, nil, -1, api.ErrNil}, {idle.Set{At: -1}, nil, 99, api.ErrNil}, {s, nil, math.MinInt, api.ErrNil},
		{s, m, 3, api.ErrRange}, {s, m, 4, api.ErrRange}, {s, m, api.MaxWorkers, api.ErrRange}, // machines of more workers have them
		{s, most, api.MaxWorkers + 1, api.ErrRange}, {s, most, 63, api.ErrRange}, {s, most, 62, api.ErrRange},
	}
	for _, w := range far {
		tries = append(tries, try{s, m, w, api.ErrRange}, try{s, most, w, api.ErrRange})
	}
	for _, at := range []int{5, 8, 9, 1 << 20, -1, math.MaxInt, math.MinInt} { // the first two are there, but nobody's
		for w := range 3 {
			tries = append(tries, try{idle.Set{At: at}, m, w, api.ErrRange})
		}
	}
	for i, c := range tries {
		before := c.m.Clone()
		if e := c.s.Enter(c.m, c.w); e != c.e {
			t.Errorf("%d: Enter: %v", i, e)
		}
		if e := c.s.Leave(c.m, c.w); e != c.e {
			t.Errorf("%d: Leave: %v", i, e)
		}
		if bits, e := c.s.Read(c.m, c.w); bits != 0 || e != c.e {
			t.Errorf("%d: Read: %d, %v", i, bits, e)
		}
		if !cells.Same(c.m, before) {
			t.Errorf("%d: an error changed something", i)
		}
	}
}

func TestP122Peek(t *testing.T) {
	m, s := fresh(t, 9, 2, 4)
	for _, x := range edges {
		m.Store(0, 4, x)
		before := m.Clone()
		if bits := s.Peek(m); bits != x {
			t.Errorf("%d, not %d", bits, x)
		}
		for _, at := range []int{5, 8, 9, 1 << 20, -1, math.MinInt, math.MaxInt} {
			if bits := (idle.Set{At: at}).Peek(m); bits != 0 {
				t.Errorf("%d in cell %d, which is not given away", bits, at)
			}
		}
		if s.Peek(nil) != 0 || (idle.Set{}).Peek(nil) != 0 {
			t.Error("a nil machine")
		}
		if !cells.Same(m, before) {
			t.Error("Peek did an operation")
		}
	}
}

// TestP122Apart keeps two sets in one machine, of which neither has who is in the other one.
func TestP122Apart(t *testing.T) {
	m, a := fresh(t, 2, 4, 0)
	b, _ := idle.New(m, 0)
	if a.Enter(m, 3) != api.OK || b.Enter(m, 1) != api.OK || b.Enter(m, 3) != api.OK || a.Peek(m) != 8 || b.Peek(m) != 10 {
		t.Error(a.Peek(m), b.Peek(m))
	}
	if b.Leave(m, 3) != api.OK || a.Peek(m) != 8 || b.Peek(m) != 2 {
		t.Error(a.Peek(m), b.Peek(m))
	}
}

// --- P12.3

// within tells who is in, of a list that says it of each.
func within(in []bool) []int {
	var l []int
	for w, is := range in {
		if is {
			l = append(l, w)
		}
	}
	return l
}

// just fails, if not just those are in a set who should be.
func just(t *testing.T, m *cells.Machine, s idle.Set, reader int, in []bool) {
	t.Helper()
	bits, e := s.Read(m, reader)
	l, want := slices.Collect(idle.Members(bits)), within(in)
	if e != api.OK || !slices.Equal(l, want) || idle.Count(bits) != len(want) || s.Peek(m) != bits {
		t.Fatalf("%v are in, not %v (%v)", l, want, e)
	}
	for w, is := range in {
		if idle.Has(bits, w) != is {
			t.Fatalf("%d is in: %v", w, !is)
		}
	}
	first := slices.Index(in, false)
	if got := idle.First(bits, len(in)); got != first {
		t.Fatalf("the first one that is not in is %d, not %d", got, first)
	}
}

// goes lets a worker in, or out, as it is out or in.
func goes(t *testing.T, m *cells.Machine, s idle.Set, w int, in []bool) {
	t.Helper()
	turn := s.Enter
	if in[w] {
		turn = s.Leave
	}
	if e := turn(m, w); e != api.OK {
		t.Fatal(w, e)
	}
	in[w] = !in[w]
}

// orders goes on in all orders, of workers who have to come or go so many times each; how many orders there are.
func orders(t *testing.T, m *cells.Machine, s idle.Set, left []int, in []bool) int {
	n, end := 0, true
	for w := range left {
		if left[w] == 0 {
			continue
		}
		end = false
		c, to, is := m.Clone(), slices.Clone(left), slices.Clone(in)
		goes(t, c, s, w, is)
		just(t, c, s, len(in)-1, is)
		to[w]--
		n += orders(t, c, s, to, is)
	}
	if end {
		return 1
	}
	return n
}

// TestP123AllOrders goes through all orders in which some come and go.
func TestP123AllOrders(t *testing.T) {
	for _, c := range []struct {
		times []int // of each worker
		n     int   // how many orders there are
	}{
		{[]int{4, 4, 3}, 11550}, {[]int{1, 1, 1, 1, 1, 1}, 720}, {[]int{2, 2, 2, 1}, 630}, {[]int{0, 5, 0, 5}, 252}, {[]int{9}, 1},
	} {
		m, s := fresh(t, 2, len(c.times), 1)
		if n := orders(t, m, s, c.times, make([]bool, len(c.times)+1)); n != c.n {
			t.Errorf("%v: %d orders, not %d", c.times, n, c.n)
		}
	}
}

// TestP123Each lets all sets of six workers be, and from each of them each one come, or go.
func TestP123Each(t *testing.T) {
	for bits := range 1 << 6 {
		for w := range 6 {
			m, s := fresh(t, 1, 5, 0)
			in := make([]bool, 6)
			for v := range 6 {
				if bits>>v&1 == 1 {
					goes(t, m, s, v, in)
				}
			}
			just(t, m, s, 5, in)
			goes(t, m, s, w, in)
			just(t, m, s, w, in)
		}
	}
}

// TestP123Many lets as many come and go as there may be, of two sets at once, in some orders of long runs; once all have gone, nobody is in.
func TestP123Many(t *testing.T) {
	next := numbers()
	for workers := 1; workers <= api.MaxWorkers; workers++ {
		m, a := fresh(t, 4, workers, 1)
		b, _ := idle.New(m, 0)
		sets, in := []idle.Set{a, b}, [][]bool{make([]bool, workers+1), make([]bool, workers+1)}
		full := 0
		for range 4000 {
			i, w := next(2), next(workers+1)
			goes(t, m, sets[i], w, in[i])
			for j := range sets {
				just(t, m, sets[j], next(workers+1), in[j])
			}
			if n := idle.Count(sets[i].Peek(m)); n > full {
				full = n
			}
		}
		if full < min(workers+1, 10) {
			t.Errorf("%d workers: no more than %d were in", workers, full)
		}
		for i := range sets {
			for _, w := range within(in[i]) {
				goes(t, m, sets[i], w, in[i])
			}
			if sets[i].Peek(m) != 0 {
				t.Errorf("%d workers: somebody is in, behind all that left: %d", workers, sets[i].Peek(m))
			}
		}
	}
}
