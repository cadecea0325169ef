package ring_test

import (
	"math"
	"math/big"
	"testing"

	"peloton/api"
	"peloton/cells"
	"peloton/ring"
)

// edges is places at which something may go round.
var edges = []int64{
	0, 1, -1, 2, -2, 3, -3, 5, -5, 127, 128, 255, 256, 257, -255, -256, -257, 1000, -1000,
	math.MaxInt32, math.MinInt32, 1 << 32, -1 << 32, 1<<32 + 1, 1<<53 + 1,
	math.MaxInt64, math.MaxInt64 - 1, math.MinInt64, math.MinInt64 + 1,
}

// right is rings at the edges of those that are right, and some between them.
func right() []ring.Ring {
	var l []ring.Ring
	for log := range api.MaxLog + 1 {
		last := api.MaxCells - size(log)
		for _, at := range []int{0, 1, 2, 3, 5, 16, 255, 1000, 1 << 19, last - 1, last} {
			l = append(l, ring.Ring{At: at, Log: log})
		}
	}
	return l
}

// wrong is rings that are not right.
func wrong() []ring.Ring {
	l := []ring.Ring{{At: -1, Log: -1}, {At: math.MaxInt, Log: math.MaxInt}, {At: math.MinInt, Log: math.MinInt}, {At: api.MaxCells, Log: 9}}
	for log := range api.MaxLog + 1 {
		last := api.MaxCells - size(log)
		for _, at := range []int{-1, -2, -size(log), math.MinInt, last + 1, api.MaxCells, api.MaxCells + 1, 1 << 32, math.MaxInt - size(log), math.MaxInt} {
			l = append(l, ring.Ring{At: at, Log: log})
		}
	}
	for _, log := range []int{-1, -2, -64, 9, 10, 15, 16, 20, 31, 32, 62, 63, 64, 65, 256, 1 << 32, math.MinInt, math.MaxInt} {
		for _, at := range []int{0, 5} {
			l = append(l, ring.Ring{At: at, Log: log})
		}
	}
	return l
}

// size is a power of two, told without a shift.
func size(log int) int {
	n := 1
	for range log {
		n *= 2
	}
	return n
}

// cell is the cell of a place of a right ring, told by numbers that do not go round.
func cell(r ring.Ring, i int64) int {
	back := new(big.Int).Mod(big.NewInt(i), big.NewInt(int64(size(r.Log)))) // from 0 on
	return r.At + int(back.Int64())
}

// numbers is a row of numbers that is the same each time.
func numbers() func(n int) int {
	seed := uint32(9)
	return func(n int) int {
		seed = seed*1664525 + 1013904223
		return int(seed>>8) % n
	}
}

// machine is a machine of so many cells and workers, all given away by the driver, each with a number of its own.
func machine(t *testing.T, n, workers int) *cells.Machine {
	t.Helper()
	m, e := cells.New(n, workers)
	if e != api.OK {
		t.Fatal(e)
	}
	if _, e := m.Alloc(workers, n); e != api.OK {
		t.Fatal(e)
	}
	for at := range n {
		m.Store(workers, at, 100+int64(at))
	}
	return m
}

// copying is a copying that may be.
func copying(t *testing.T, r, to ring.Ring, from, until int64) *ring.Copy {
	t.Helper()
	c, e := r.Copy(to, from, until)
	if c == nil || e != api.OK {
		t.Fatalf("%v.Copy(%v, %d, %d): %v, %v", r, to, from, until, c != nil, e)
	}
	return c
}

// step lets a copying do a Step, and holds what it tells against what it should.
func step(t *testing.T, c *ring.Copy, m *cells.Machine, w int, done bool, e api.Errno) {
	t.Helper()
	if d, f := c.Step(m, w); d != done || f != e {
		t.Fatalf("Step of %d: %v, %v, not %v, %v", w, d, f, done, e)
	}
}

// --- P9.1

func TestP91Example(t *testing.T) {
	r := ring.Ring{At: 5, Log: 2}
	if r.Size() != 4 || r.Place(6) != 7 || r.Place(-1) != 8 || r.Word() != 82 {
		t.Error(r.Size(), r.Place(6), r.Place(-1), r.Word())
	}
	if back, e := ring.Of(82); back != r || e != api.OK {
		t.Error(back, e)
	}
	if back, e := ring.Of(9); back != (ring.Ring{}) || e != api.ErrForm {
		t.Error(back, e)
	}
}

func TestP91Right(t *testing.T) {
	for _, r := range right() {
		if r.Size() != size(r.Log) {
			t.Errorf("%v: Size is %d", r, r.Size())
		}
		if r.Word() != 16*int64(r.At)+int64(r.Log) {
			t.Errorf("%v: Word is %d", r, r.Word())
		}
		for _, i := range edges {
			if r.Place(i) != cell(r, i) {
				t.Errorf("%v: Place(%d) is %d, not %d", r, i, r.Place(i), cell(r, i))
			}
		}
	}
}

func TestP91Wrong(t *testing.T) {
	for _, r := range wrong() {
		if r.Size() != 0 || r.Word() != -1 {
			t.Errorf("%v: Size is %d, Word %d", r, r.Size(), r.Word())
		}
		for _, i := range edges {
			if r.Place(i) != -1 {
				t.Errorf("%v: Place(%d) is %d", r, i, r.Place(i))
			}
		}
	}
}

// TestP91Words goes through all numbers that are Words, and those around them.
func TestP91Words(t *testing.T) {
	for word := int64(-40); word < 16*api.MaxCells+40; word++ {
		want, f := ring.Ring{}, api.ErrForm
		if at, log := int(word/16), int(word%16); word >= 0 && log <= 8 && at+size(log) <= api.MaxCells {
			want, f = ring.Ring{At: at, Log: log}, api.OK
		}
		r, e := ring.Of(word)
		if r != want || e != f {
			t.Fatalf("Of(%d): %v, %v, not %v, %v", word, r, e, want, f)
		}
		if e == api.OK && r.Word() != word {
			t.Fatalf("%v: Word is %d, not %d", r, r.Word(), word)
		}
	}
}

func TestP91NoWords(t *testing.T) {
	for _, word := range []int64{
		-1, -2, -8, -15, -16, -17, -32, math.MinInt64, math.MinInt64 + 1, math.MinInt64 + 16,
		9, 10, 15, 16*7 + 9, 16 * api.MaxCells, 16*(api.MaxCells-256) + 24,
		1 << 36, 1<<36 + 2, 1 << 40, math.MaxInt64, math.MaxInt64 - 15, math.MaxInt64 - 7,
	} {
		if r, e := ring.Of(word); r != (ring.Ring{}) || e != api.ErrForm {
			t.Errorf("Of(%d): %v, %v", word, r, e)
		}
	}
}

// --- P9.2

func TestP92Example(t *testing.T) {
	m, _ := cells.New(8, 1)
	if r, e := ring.New(m, 0, 1); r != (ring.Ring{At: 0, Log: 1}) || e != api.OK {
		t.Error(r, e)
	}
	if r, e := ring.New(m, 0, 2); r != (ring.Ring{At: 2, Log: 2}) || e != api.OK {
		t.Error(r, e)
	}
}

func TestP92New(t *testing.T) {
	m, _ := cells.New(api.MaxCells, 3)
	used := 0
	for k := range 40 {
		log, w := k*5%(api.MaxLog+1), k%4 // each caller, the driver as well
		steps := m.Steps(w)
		r, e := ring.New(m, w, log)
		if r != (ring.Ring{At: used, Log: log}) || e != api.OK {
			t.Errorf("New(%d, %d): %v, %v", w, log, r, e)
		}
		used += size(log)
		if m.Used() != used || m.Steps(w) != steps+1 {
			t.Errorf("New(%d, %d): %d cells are given away, not %d, by %d operations", w, log, m.Used(), used, m.Steps(w)-steps)
		}
	}
	for at := range used {
		if m.Peek(at) != 0 {
			t.Error(at, m.Peek(at))
		}
	}
	if m.Steps(0)+m.Steps(1)+m.Steps(2)+m.Steps(3) != 40 {
		t.Error(m.Steps(0), m.Steps(1), m.Steps(2), m.Steps(3))
	}
}

// TestP92Last lets the last cells that there may be become rings, which are right.
func TestP92Last(t *testing.T) {
	for log := range api.MaxLog + 1 {
		m, _ := cells.New(api.MaxCells, 1)
		m.Alloc(0, api.MaxCells-size(log))
		r, e := ring.New(m, 0, log)
		if r != (ring.Ring{At: api.MaxCells - size(log), Log: log}) || e != api.OK || r.Size() != size(log) {
			t.Error(log, r, e)
		}
		if again, e := ring.New(m, 0, 0); again != (ring.Ring{}) || e != api.ErrArena {
			t.Error(log, again, e)
		}
	}
}

func TestP92Errors(t *testing.T) {
	m := machine(t, 4, 2)
	room, _ := cells.New(259, 2)
	room.Alloc(0, 4)
	for i, c := range []struct {
		m      *cells.Machine
		w, log int
		e      api.Errno
	}{
		{nil, 0, 1, api.ErrNil},
		{nil, 9, 9, api.ErrNil},
		{nil, -1, -1, api.ErrNil},
		{room, 0, -1, api.ErrRange},
		{room, 0, api.MaxLog + 1, api.ErrRange},
		{room, 0, 63, api.ErrRange},
		{room, 0, 64, api.ErrRange},
		{room, 0, math.MinInt, api.ErrRange},
		{room, 0, math.MaxInt, api.ErrRange},
		{m, 0, api.MaxLog + 1, api.ErrRange}, // ahead of ErrArena
		{room, 3, 0, api.ErrRange},
		{room, -1, 0, api.ErrRange},
		{room, 3, api.MaxLog, api.ErrRange}, // nor is there room
		{room, 0, api.MaxLog, api.ErrArena},
		{m, 0, 0, api.ErrArena},
	} {
		before := c.m.Clone()
		if r, e := ring.New(c.m, c.w, c.log); r != (ring.Ring{}) || e != c.e {
			t.Errorf("%d: New(%d, %d): %v, %v", i, c.w, c.log, r, e)
		}
		if !cells.Same(c.m, before) {
			t.Errorf("%d: an error changed something", i)
		}
	}
	if r, e := ring.New(room, 0, 7); r != (ring.Ring{At: 4, Log: 7}) || e != api.OK {
		t.Error("what was refused took room", r, e)
	}
}

// --- P9.3

func TestP93Example(t *testing.T) {
	m, _ := cells.New(8, 1)
	a, _ := ring.New(m, 0, 1)
	b, _ := ring.New(m, 0, 2)
	m.Store(0, 1, 7)
	c := copying(t, a, b, 1, 2)
	step(t, c, m, 0, false, api.OK)
	if m.Peek(3) != 0 {
		t.Error("stored by the first Step")
	}
	step(t, c, m, 0, true, api.OK)
	if m.Peek(3) != 7 || m.Steps(0) != 5 {
		t.Error(m.Peek(3), m.Steps(0))
	}
}

func TestP93WrongRings(t *testing.T) {
	for _, r := range right() {
		for _, bad := range wrong() {
			for _, until := range []int64{0, 1, -1, 1000} { // ErrArg is named ahead of ErrRange
				if c, e := r.Copy(bad, 0, until); c != nil || e != api.ErrArg {
					t.Fatalf("%v.Copy(%v, 0, %d): %v, %v", r, bad, until, c != nil, e)
				}
				if c, e := bad.Copy(r, 0, until); c != nil || e != api.ErrArg {
					t.Fatalf("%v.Copy(%v, 0, %d): %v, %v", bad, r, until, c != nil, e)
				}
			}
		}
	}
	bad := ring.Ring{Log: 9}
	if c, e := bad.Copy(bad, 0, 0); c != nil || e != api.ErrArg {
		t.Error(c != nil, e)
	}
}

// TestP93HowMany holds whether places may be copied against numbers that do not go round.
func TestP93HowMany(t *testing.T) {
	for log := range api.MaxLog + 1 {
		for other := range api.MaxLog + 1 {
			r, to := ring.Ring{At: 0, Log: log}, ring.Ring{At: 1000, Log: other}
			most := big.NewInt(int64(min(size(log), size(other))))
			for _, from := range edges {
				untils := append([]int64{from, from + 1, from - 1, from + most.Int64(), from + most.Int64() + 1, from - most.Int64()}, edges...)
				for _, until := range untils { // those that went round as well
					n := new(big.Int).Sub(big.NewInt(until), big.NewInt(from))
					want := api.OK
					if n.Sign() < 0 || n.Cmp(most) > 0 {
						want = api.ErrRange
					}
					if c, e := r.Copy(to, from, until); e != want || (c != nil) != (e == api.OK) {
						t.Fatalf("%v.Copy(%v, %d, %d): %v, %v, not %v", r, to, from, until, c != nil, e, want)
					}
				}
			}
		}
	}
}

// TestP93HowManyWrittenOut is some of the above without a rule.
func TestP93HowManyWrittenOut(t *testing.T) {
	two, four := ring.Ring{At: 0, Log: 1}, ring.Ring{At: 2, Log: 2}
	for i, c := range []struct {
		r, to       ring.Ring
		from, until int64
		e           api.Errno
	}{
		{two, four, 3, 3, api.OK},
		{two, four, 3, 5, api.OK},
		{two, four, 3, 6, api.ErrRange},
		{four, two, 3, 5, api.OK},
		{four, two, 3, 6, api.ErrRange},
		{four, four, 3, 7, api.OK},
		{four, four, 3, 8, api.ErrRange},
		{two, four, 3, 2, api.ErrRange},
		{two, four, -1, 1, api.OK},
		{two, four, -1, 2, api.ErrRange},
		{two, four, math.MaxInt64, math.MaxInt64, api.OK},
		{two, four, math.MaxInt64 - 2, math.MaxInt64, api.OK},
		{two, four, math.MinInt64, math.MinInt64 + 2, api.OK},
		{two, four, math.MinInt64, math.MinInt64 + 3, api.ErrRange},
		{two, four, math.MaxInt64, math.MinInt64, api.ErrRange},
		{two, four, math.MinInt64, math.MaxInt64, api.ErrRange},
		{two, four, math.MinInt64, 0, api.ErrRange},
		{two, four, -1, math.MaxInt64, api.ErrRange},
	} {
		if got, e := c.r.Copy(c.to, c.from, c.until); e != c.e || (got != nil) != (e == api.OK) {
			t.Errorf("%d: Copy(%d, %d): %v, %v", i, c.from, c.until, got != nil, e)
		}
	}
}

func TestP93Nil(t *testing.T) {
	m := machine(t, 8, 2)
	before := m.Clone()
	var none *ring.Copy
	for _, w := range []int{-1, 0, 2, 3} {
		step(t, none, m, w, false, api.ErrNil)
		step(t, none, nil, w, false, api.ErrNil)
	}
	r, to := ring.Ring{At: 0, Log: 1}, ring.Ring{At: 2, Log: 1}
	all := copying(t, r, to, 5, 5)
	step(t, all, nil, 0, false, api.ErrNil) // though all are copied
	c := copying(t, r, to, 0, 1)
	step(t, c, nil, 9, false, api.ErrNil)
	if !cells.Same(m, before) {
		t.Error("an error changed something")
	}
	step(t, c, m, 0, false, api.OK)
	step(t, c, nil, 0, false, api.ErrNil)
	step(t, c, m, 0, true, api.OK)
	step(t, c, nil, 0, false, api.ErrNil)
	if m.Peek(2) != 100 {
		t.Error(m.Peek(2))
	}
}

// TestP93AllCopied steps copyings of which nothing is left to do, by workers and by those that are none.
func TestP93AllCopied(t *testing.T) {
	m := machine(t, 8, 2)
	r, to := ring.Ring{At: 0, Log: 1}, ring.Ring{At: 2, Log: 2}
	c := copying(t, r, to, 1, 2)
	step(t, c, m, 0, false, api.OK)
	step(t, c, m, 0, true, api.OK)
	before := m.Clone()
	for _, from := range edges {
		for _, w := range []int{-1, 0, 1, 2, 3, math.MinInt, math.MaxInt} {
			step(t, copying(t, r, to, from, from), m, w, true, api.OK)
			step(t, c, m, w, true, api.OK)
		}
	}
	if !cells.Same(m, before) {
		t.Error("an operation, though all are copied")
	}
}

// TestP93Order holds each operation of a copying against what it should be: whose, and what it turned.
func TestP93Order(t *testing.T) {
	m := machine(t, 16, 3)
	r, to := ring.Ring{At: 1, Log: 2}, ring.Ring{At: 6, Log: 3}
	c := copying(t, r, to, -2, 2)
	in, out := []int{3, 4, 1, 2}, []int{12, 13, 6, 7}
	for k := range in {
		w := k % 4 // each caller
		want := m.Clone()
		want.Load(w, in[k])
		step(t, c, m, w, false, api.OK)
		if !cells.Same(m, want) {
			t.Fatalf("place %d: not one Load of %d", k-2, w)
		}
		w = (k + 1) % 4
		want.Store(w, out[k], m.Peek(in[k]))
		step(t, c, m, w, k == 3, api.OK)
		if !cells.Same(m, want) {
			t.Fatalf("place %d: not one Store of %d, of its number", k-2, w)
		}
	}
}

// TestP93Between lets numbers turn ahead of a Load, and behind it.
func TestP93Between(t *testing.T) {
	m := machine(t, 8, 2)
	c := copying(t, ring.Ring{At: 0, Log: 1}, ring.Ring{At: 2, Log: 1}, 0, 2)
	m.Store(1, 0, 50) // ahead of the Load: seen
	step(t, c, m, 0, false, api.OK)
	m.Store(1, 0, 51) // behind it: not seen
	m.Store(1, 2, 52)
	step(t, c, m, 0, false, api.OK)
	m.Store(1, 1, 53)
	step(t, c, m, 0, false, api.OK)
	step(t, c, m, 0, true, api.OK)
	if m.Peek(0) != 51 || m.Peek(1) != 53 || m.Peek(2) != 50 || m.Peek(3) != 53 {
		t.Error(m.Peek(0), m.Peek(1), m.Peek(2), m.Peek(3))
	}
	m.Store(1, 2, 54)
	step(t, c, m, 0, true, api.OK)
	if m.Peek(2) != 54 {
		t.Error("stored again", m.Peek(2))
	}
}

// TestP93RefusedCaller lets one who is no caller step, ahead of each operation.
func TestP93RefusedCaller(t *testing.T) {
	m := machine(t, 8, 2)
	c := copying(t, ring.Ring{At: 0, Log: 1}, ring.Ring{At: 2, Log: 2}, 0, 2)
	refused := func() {
		t.Helper()
		before := m.Clone()
		for _, w := range []int{-1, 3, math.MinInt, math.MaxInt} {
			step(t, c, m, w, false, api.ErrRange)
		}
		if !cells.Same(m, before) {
			t.Fatal("an error changed something")
		}
	}
	refused()
	step(t, c, m, 0, false, api.OK)
	m.Store(1, 0, 9) // what was loaded is kept, though the Store is refused
	refused()
	step(t, c, m, 1, false, api.OK)
	if m.Peek(2) != 100 {
		t.Error(m.Peek(2))
	}
	refused()
	step(t, c, m, 2, false, api.OK)
	refused()
	step(t, c, m, 0, true, api.OK)
	if m.Peek(3) != 101 || m.Steps(0) != 2 || m.Steps(1) != 2 {
		t.Error(m.Peek(3), m.Steps(0), m.Steps(1))
	}
}

// TestP93RefusedCell copies out of, and into, cells that are not given away yet.
func TestP93RefusedCell(t *testing.T) {
	m, _ := cells.New(6, 1)
	m.Alloc(1, 2)
	m.Store(1, 0, 40)
	m.Store(1, 1, 41)
	given, left := ring.Ring{At: 0, Log: 1}, ring.Ring{At: 2, Log: 1}
	out, in := copying(t, left, given, 1, 2), copying(t, given, left, 1, 2)
	step(t, in, m, 0, false, api.OK)
	before := m.Clone()
	for range 3 {
		step(t, out, m, 0, false, api.ErrRange)
		step(t, in, m, 0, false, api.ErrRange)
	}
	if !cells.Same(m, before) {
		t.Error("an error changed something")
	}
	m.Alloc(1, 2)
	step(t, in, m, 0, true, api.OK)
	if m.Peek(3) != 41 || m.Peek(2) != 0 {
		t.Error(m.Peek(2), m.Peek(3))
	}
	m.Store(1, 3, 42)
	step(t, out, m, 0, false, api.OK)
	step(t, out, m, 0, true, api.OK)
	if m.Peek(1) != 42 || m.Peek(0) != 40 || m.Steps(0) != 4 {
		t.Error(m.Peek(0), m.Peek(1), m.Steps(0))
	}
	beyond := copying(t, ring.Ring{At: api.MaxCells - 256, Log: 8}, given, 0, 1)
	step(t, beyond, m, 0, false, api.ErrRange)
	step(t, beyond, m, 0, false, api.ErrRange)
}

// TestP93TwoMachines steps a copying in one machine, then in another: an operation is of the machine of its Step.
func TestP93TwoMachines(t *testing.T) {
	m, n := machine(t, 4, 1), machine(t, 4, 1)
	c := copying(t, ring.Ring{At: 0, Log: 1}, ring.Ring{At: 2, Log: 1}, 0, 1)
	m.Store(1, 0, 8)
	step(t, c, m, 0, false, api.OK)
	step(t, c, n, 0, true, api.OK)
	if m.Peek(2) != 102 || n.Peek(2) != 8 || m.Steps(0) != 1 || n.Steps(0) != 1 {
		t.Error(m.Peek(2), n.Peek(2), m.Steps(0), n.Steps(0))
	}
}

// TestP93Many steps several copyings of rings, which may have cells in common, in whatever order, beside Stores; and holds each against a reading of its own.
func TestP93Many(t *testing.T) {
	upTo := numbers()
	type reading struct {
		c            *ring.Copy
		r, to        ring.Ring
		place, until int64
		loaded       bool
		x            int64
	}
	ringOf := func() ring.Ring {
		log := upTo(4)
		return ring.Ring{At: upTo(24 - size(log)), Log: log} // up to 20 are given away: some reach behind
	}
	for run := range 300 {
		m, _ := cells.New(24, 2)
		m.Alloc(2, 20)
		var all []*reading
		for range 1 + upTo(4) {
			d := &reading{r: ringOf(), to: ringOf(), place: edges[upTo(len(edges))]}
			d.until = d.place
			for n := upTo(1 + min(size(d.r.Log), size(d.to.Log))); n > 0 && d.until < math.MaxInt64; n-- {
				d.until++
			}
			d.c = copying(t, d.r, d.to, d.place, d.until)
			all = append(all, d)
		}
		for range 100 {
			d, w, want := all[upTo(len(all))], upTo(5)-1, m.Clone()
			if upTo(4) == 0 {
				m.Store(w, upTo(20), int64(upTo(1000)))
				continue
			}
			e := api.OK
			switch {
			case d.place == d.until:
			case !d.loaded:
				if d.x, e = want.Load(w, cell(d.r, d.place)); e == api.OK {
					d.loaded = true
				}
			default:
				if e = want.Store(w, cell(d.to, d.place), d.x); e == api.OK {
					d.loaded = false
					d.place++
				}
			}
			if done, f := d.c.Step(m, w); done != (d.place == d.until && e == api.OK) || f != e || !cells.Same(m, want) {
				t.Fatalf("run %d: %v to %v, place %d of %d: %v, %v, not %v", run, d.r, d.to, d.place, d.until, done, f, e)
			}
		}
	}
}

// --- P9.4

func TestP94OneCell(t *testing.T) {
	for _, r := range right() {
		n := big.NewInt(int64(size(r.Log)))
		for _, i := range edges {
			for _, j := range append([]int64{i + n.Int64(), i - n.Int64(), i + 3*n.Int64(), i + 1, i - 1, i + n.Int64()/2}, edges...) {
				apart := new(big.Int).Sub(big.NewInt(i), big.NewInt(j))
				if one := apart.Mod(apart, n).Sign() == 0; (r.Place(i) == r.Place(j)) != one {
					t.Fatalf("%v: places %d and %d are %d and %d", r, i, j, r.Place(i), r.Place(j))
				}
			}
			if at := r.Place(i); at < r.At || at >= r.At+size(r.Log) {
				t.Fatalf("%v: place %d is %d", r, i, at)
			}
		}
	}
}

// TestP94Copied copies as much as goes into a ring that has no cell in common, of each two sizes.
func TestP94Copied(t *testing.T) {
	for log := range api.MaxLog + 1 {
		for other := range api.MaxLog + 1 {
			m := machine(t, 1+size(log)+size(other), 1)
			r, to := ring.Ring{At: 0, Log: log}, ring.Ring{At: 1 + size(log), Log: other}
			n := min(size(log), size(other))
			for _, from := range []int64{0, 3, -5, math.MinInt64, math.MaxInt64 - int64(n)} {
				before := m.Clone()
				copied(t, m, r, to, from, from+int64(n))
				for at := range size(log) + 1 { // with the cell between them
					if m.Peek(at) != before.Peek(at) {
						t.Fatalf("cell %d turned", at)
					}
				}
				for at := range size(log) {
					m.Add(1, at, 1000)
				}
			}
		}
	}
}

// copied copies places, and looks for them, and at how many operations it took.
func copied(t *testing.T, m *cells.Machine, r, to ring.Ring, from, until int64) {
	t.Helper()
	before, places := m.Steps(0), map[int]bool{}
	c := copying(t, r, to, from, until)
	for k := 2 * (until - from); k > 0; k-- {
		step(t, c, m, 0, k == 1, api.OK)
	}
	for i := from; i < until; i++ {
		if x := m.Peek(cell(to, i)); x != m.Peek(cell(r, i)) {
			t.Fatalf("%v to %v: place %d has %d, not %d", r, to, i, x, m.Peek(cell(r, i)))
		}
		places[cell(to, i)] = true
	}
	if m.Steps(0)-before != 2*int(until-from) || len(places) != int(until-from) {
		t.Fatalf("%v to %v, from %d: %d operations, %d cells", r, to, from, m.Steps(0)-before, len(places))
	}
}
