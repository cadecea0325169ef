package event_test

import (
	"math"
	"testing"

	"peloton/api"
	"peloton/cells"
	"peloton/event"
)

// numbers is a row of numbers that is the same each time.
func numbers() func(n int) int {
	seed := uint32(11)
	return func(n int) int {
		seed = seed*1664525 + 1013904223
		return int(seed>>8) % n
	}
}

// fresh is a machine, and an event in it, ahead of which so many cells are given away.
func fresh(t *testing.T, size, workers, ahead int) (*cells.Machine, event.Event) {
	t.Helper()
	m, e := cells.New(size, workers)
	if e != api.OK {
		t.Fatal(e)
	}
	if ahead > 0 {
		m.Alloc(workers, ahead)
	}
	v, e := event.New(m, workers)
	if v != (event.Event{At: ahead}) || e != api.OK {
		t.Fatal(v, e)
	}
	return m, v
}

// --- P11.1

func TestP111New(t *testing.T) {
	for w := range 4 {
		m, _ := cells.New(3, 3)
		for at := range 3 {
			want := m.Clone()
			want.Alloc(w, 1)
			if v, e := event.New(m, w); v != (event.Event{At: at}) || e != api.OK || !cells.Same(m, want) {
				t.Errorf("New of %d: %v, %v", w, v, e)
			}
			if n, e := (event.Event{At: at}).Read(m, w); n != 0 || e != api.OK {
				t.Error("a new event was told", n, e)
			}
		}
		before := m.Clone()
		if v, e := event.New(m, w); v != (event.Event{}) || e != api.ErrArena || !cells.Same(m, before) {
			t.Error("without room", v, e)
		}
	}
}

// TestP111Last makes an event of the last cell that there may be.
func TestP111Last(t *testing.T) {
	m, v := fresh(t, api.MaxCells, api.MaxWorkers, api.MaxCells-1)
	if e := v.Tell(m, api.MaxWorkers); e != api.OK || m.Peek(api.MaxCells-1) != 1 || !v.Parked(m, 1) {
		t.Error(e, m.Peek(api.MaxCells-1))
	}
}

func TestP111NewErrors(t *testing.T) {
	full, _ := fresh(t, 1, 1, 0)
	m, _ := fresh(t, 5, 2, 2)
	for i, c := range []struct {
		m *cells.Machine
		w int
		e api.Errno
	}{
		{nil, 0, api.ErrNil}, {nil, -1, api.ErrNil}, {nil, 99, api.ErrNil},
		{m, -1, api.ErrRange}, {m, 3, api.ErrRange}, {m, math.MinInt, api.ErrRange}, {m, math.MaxInt, api.ErrRange},
		{full, 0, api.ErrArena}, {full, 1, api.ErrArena}, {full, 2, api.ErrRange},
	} {
		before := c.m.Clone()
		if v, e := event.New(c.m, c.w); v != (event.Event{}) || e != c.e || !cells.Same(c.m, before) {
			t.Errorf("%d: %v, %v", i, v, e)
		}
	}
	if v, e := event.New(m, 0); v != (event.Event{At: 3}) || e != api.OK {
		t.Error("what was refused took a cell", v, e)
	}
}

// TestP111Tell tells an event from each caller, and holds each call against the machine's own operation.
func TestP111Tell(t *testing.T) {
	next := numbers()
	m, v := fresh(t, 9, 3, 4)
	m.Alloc(0, 2)
	for _, x := range []int64{0, 1, -1, math.MaxInt64 - 2, math.MinInt64} {
		m.Store(0, 4, x)
		for range 20 {
			w, want := next(4), m.Clone()
			want.Add(w, 4, 1)
			if e := v.Tell(m, w); e != api.OK || !cells.Same(m, want) {
				t.Fatalf("Tell of %d: %v", w, e)
			}
			x++
			w = next(4)
			want.Load(w, 4)
			if n, e := v.Read(m, w); n != x || e != api.OK || !cells.Same(m, want) {
				t.Fatalf("Read of %d: %d, %v, not %d", w, n, e, x)
			}
		}
	}
}

func TestP111Refused(t *testing.T) {
	m, v := fresh(t, 9, 2, 4)
	m.Store(0, 4, 7)
	before := m.Clone()
	for i, c := range []struct {
		v event.Event
		m *cells.Machine
		w int
		e api.Errno
	}{
		{v, nil, 0, api.ErrNil}, {v, nil, -1, api.ErrNil}, {event.Event{At: -1}, nil, 99, api.ErrNil},
		{v, m, -1, api.ErrRange}, {v, m, 3, api.ErrRange}, {v, m, math.MaxInt, api.ErrRange},
		{event.Event{At: 5}, m, 0, api.ErrRange}, // there is such a cell, but nobody has it
		{event.Event{At: 9}, m, 0, api.ErrRange}, {event.Event{At: -1}, m, 0, api.ErrRange},
		{event.Event{At: math.MaxInt}, m, 1, api.ErrRange}, {event.Event{At: math.MinInt}, m, 2, api.ErrRange},
	} {
		if n, e := c.v.Read(c.m, c.w); n != 0 || e != c.e {
			t.Errorf("%d: Read: %d, %v", i, n, e)
		}
		if e := c.v.Tell(c.m, c.w); e != c.e {
			t.Errorf("%d: Tell: %v", i, e)
		}
	}
	if !cells.Same(m, before) {
		t.Error("an error changed something")
	}
}

func TestP111Parked(t *testing.T) {
	m, v := fresh(t, 9, 2, 4)
	far := []int64{math.MinInt64, -1, 0, 1, 2, math.MaxInt64}
	for _, stands := range far {
		m.Store(0, 4, stands)
		before := m.Clone()
		for _, seen := range far {
			if is := v.Parked(m, seen); is != (seen == stands) {
				t.Errorf("it is %d, %d was seen: %v", stands, seen, is)
			}
			if v.Parked(nil, seen) || (event.Event{}).Parked(nil, seen) {
				t.Error("a nil machine")
			}
			for _, at := range []int{5, 8, 9, 1 << 20, -1, math.MinInt, math.MaxInt} {
				if (event.Event{At: at}).Parked(m, seen) {
					t.Errorf("%d was seen of cell %d, which is not given away", seen, at)
				}
			}
		}
		if !cells.Same(m, before) {
			t.Error("Parked did an operation")
		}
	}
}

// TestP111Apart keeps two events in one machine, of which neither hears the other one.
func TestP111Apart(t *testing.T) {
	m, a := fresh(t, 2, 1, 0)
	b, _ := event.New(m, 0)
	x, y := a.Wait(), b.Wait()
	for _, z := range []*event.Wait{x, y} {
		if z.Ready(m, 0) != api.OK || z.Park() != api.OK || !z.Parked(m) {
			t.Fatal("not parked")
		}
	}
	if a.Tell(m, 0) != api.OK || x.Parked(m) || !y.Parked(m) || !b.Parked(m, 0) {
		t.Error("the first one was told")
	}
}

// --- P11.2

func TestP112Example(t *testing.T) {
	m, _ := cells.New(2, 1)
	v, e := event.New(m, 0)
	if v != (event.Event{}) || e != api.OK {
		t.Fatal(v, e)
	}
	x := v.Wait()
	if e := x.Park(); e != api.ErrState {
		t.Error(e)
	}
	if x.Ready(m, 0) != api.OK || x.Park() != api.OK || !x.Parked(m) {
		t.Error("ready, and down")
	}
	if v.Tell(m, 1) != api.OK || x.Parked(m) {
		t.Error("it was told")
	}
	if x.Ready(m, 0) != api.OK || x.Parked(m) {
		t.Error("ready")
	}
	if x.Park() != api.OK || !x.Parked(m) {
		t.Error("down again")
	}
	if n, e := v.Read(m, 0); n != 1 || e != api.OK {
		t.Error(n, e)
	}
}

// TestP112All does all calls in long rows, and holds each against what the chapter tells.
func TestP112All(t *testing.T) {
	const away, ready, down = 0, 1, 2
	next := numbers()
	m, v := fresh(t, 9, 2, 3)
	type stands struct {
		how  int
		seen int64
	}
	var waits [4]*event.Wait
	var want [4]stands
	for i := range waits {
		waits[i] = v.Wait()
	}
	told, parked := int64(0), 0
	for range 20000 {
		i, w, like := next(4), next(5)-1, m.Clone()
		x, s := waits[i], &want[i]
		switch next(8) {
		case 0, 1, 2:
			e := x.Ready(m, w)
			if w < 0 || w > 2 {
				if e != api.ErrRange {
					t.Fatal(w, e)
				}
				break
			}
			like.Load(w, 3)
			if e != api.OK {
				t.Fatal(w, e)
			}
			*s = stands{ready, told}
		case 3, 4, 5:
			if e := x.Park(); s.how == ready && e != api.OK || s.how != ready && e != api.ErrState {
				t.Fatalf("Park of one that stands as %d: %v", s.how, e)
			}
			if s.how == ready {
				s.how = down
			}
		case 6:
			if x.Leave(); next(2) == 0 {
				x.Leave()
			}
			s.how = away
		case 7:
			w = next(3)
			like.Add(w, 3, 1)
			v.Tell(m, w)
			told++
		}
		if !cells.Same(m, like) {
			t.Fatal("the machine is not as it should be")
		}
		for j, y := range waits {
			is := want[j].how == down && want[j].seen == told
			if y.Parked(m) != is || y.Parked(nil) {
				t.Fatalf("wait %d stands as %v, it was told %d times: %v", j, want[j], told, y.Parked(m))
			}
			if is {
				parked++
			}
		}
	}
	if parked < 1000 {
		t.Error("too few lay down", parked)
	}
}

// waiting is a wait that is away (0), ready (1), or lies down (2), and has seen 0.
func waiting(t *testing.T, m *cells.Machine, v event.Event, how int) *event.Wait {
	t.Helper()
	x := v.Wait()
	if how > 0 && x.Ready(m, 0) != api.OK || how > 1 && x.Park() != api.OK {
		t.Fatal("not as it should be")
	}
	return x
}

// TestP112Refused refuses a Ready, however a wait stands: nothing of it is turned.
func TestP112Refused(t *testing.T) {
	for how := range 3 {
		for _, w := range []int{-1, 3, math.MaxInt, math.MinInt, 0} {
			m, v := fresh(t, 2, 2, 0)
			x, with, e := waiting(t, m, v, how), m, api.ErrRange
			if w == 0 {
				with, e = nil, api.ErrNil
			}
			v.Tell(m, 0)
			before := m.Clone()
			if got := x.Ready(with, w); got != e || !cells.Same(m, before) {
				t.Errorf("%d: Ready of %d: %v, not %v", how, w, got, e)
			}
			m.Store(0, 0, 0) // what it has seen
			if x.Parked(m) != (how == 2) {
				t.Errorf("%d: it lies down, or not, behind a Ready that was refused", how)
			}
			if e := x.Park(); (e == api.OK) != (how == 1) || e != api.OK && e != api.ErrState {
				t.Errorf("%d: Park behind it: %v", how, e)
			}
			if x.Parked(m) != (how > 0) {
				t.Errorf("%d: it has seen something else", how)
			}
		}
	}
}

// TestP112Again lets a wait be ready, however it stands: it has seen what was read last.
func TestP112Again(t *testing.T) {
	for how := range 3 {
		m, v := fresh(t, 2, 2, 0)
		x := waiting(t, m, v, how)
		v.Tell(m, 1)
		if x.Ready(m, 0) != api.OK || x.Parked(m) {
			t.Errorf("%d: ready is not down", how)
		}
		if x.Park() != api.OK || !x.Parked(m) {
			t.Errorf("%d: down", how)
		}
		if x.Park() != api.ErrState || !x.Parked(m) {
			t.Errorf("%d: a second Park", how)
		}
		m.Store(0, 0, 0)
		if x.Parked(m) {
			t.Errorf("%d: it has seen what was ahead", how)
		}
	}
}

// TestP112Leave lets a wait leave, however it stands.
func TestP112Leave(t *testing.T) {
	for how := range 3 {
		m, v := fresh(t, 2, 2, 0)
		x := waiting(t, m, v, how)
		before := m.Clone()
		x.Leave()
		if x.Parked(m) || x.Park() != api.ErrState || x.Parked(m) || !cells.Same(m, before) {
			t.Errorf("%d: it is not away", how)
		}
	}
}

// TestP112Round goes round with the number, and comes to one that was seen.
func TestP112Round(t *testing.T) {
	m, v := fresh(t, 2, 2, 0)
	m.Store(0, 0, math.MaxInt64)
	x := waiting(t, m, v, 2)
	if !x.Parked(m) || v.Tell(m, 1) != api.OK || x.Parked(m) || m.Peek(0) != math.MinInt64 {
		t.Error("it goes round", m.Peek(0))
	}
	if x.Ready(m, 0) != api.OK || x.Park() != api.OK || !x.Parked(m) {
		t.Error("down again")
	}
}

func TestP112Nil(t *testing.T) {
	var x *event.Wait
	m, _ := fresh(t, 2, 2, 0)
	before := m.Clone()
	for _, w := range []int{-1, 0, 2, 3} {
		if x.Ready(m, w) != api.ErrNil || x.Ready(nil, w) != api.ErrNil {
			t.Error("Ready of a nil wait")
		}
	}
	if x.Park() != api.ErrNil || x.Parked(m) || x.Parked(nil) {
		t.Error("a nil wait")
	}
	x.Leave()
	if !cells.Same(m, before) {
		t.Error("a nil wait turned something")
	}
}

// TestP112NoCell waits for events whose cells are nobody's: it is never ready.
func TestP112NoCell(t *testing.T) {
	m, _ := fresh(t, 4, 2, 0)
	for _, at := range []int{1, 3, 4, -1, math.MinInt, math.MaxInt} {
		x := event.Event{At: at}.Wait()
		if x == nil || x.Parked(m) || x.Ready(m, 0) != api.ErrRange || x.Park() != api.ErrState || x.Parked(m) {
			t.Errorf("cell %d", at)
		}
	}
	x := event.Event{At: 1}.Wait() // the cell is given away later on
	m.Alloc(0, 1)
	if x.Ready(m, 0) != api.OK || x.Park() != api.OK || !x.Parked(m) {
		t.Error("not parked")
	}
	less, _ := fresh(t, 4, 2, 0)
	if x.Parked(less) {
		t.Error("in a machine that has not given the cell away")
	}
}

// TestP112Own keeps waits for one event apart.
func TestP112Own(t *testing.T) {
	m, v := fresh(t, 2, 2, 0)
	x, y := waiting(t, m, v, 2), v.Wait()
	if x == y || y.Parked(m) || y.Park() != api.ErrState {
		t.Error("the other one is not away")
	}
	x.Leave()
	if y.Ready(m, 1) != api.OK || y.Park() != api.OK || !y.Parked(m) || x.Parked(m) {
		t.Error("the first one is not away")
	}
}

// --- P11.3

const (
	things  = 2 // each is put there once, by a party of its own
	waiters = 2 // each takes what it finds
)

// rules is in which order parties do what they do.
type rules struct {
	tellFirst bool // whoever puts something there tells it ahead of that
	lookFirst bool // whoever finds nothing was ready only behind its look
}

// place is where all parties stand; machines and waits are kept beside it, as they are no keys.
type place struct {
	count int64         // what the event is
	there [things]int64 // what is there
	put   [things]int   // steps that were done of those who put: the thing, and the telling
	at    [waiters]int  // the step that is next of those who wait
	found [waiters]int  // the thing that was found, or -1
	how   [waiters]int  // 0: away, 1: ready, 2: it lies down
	seen  [waiters]int64
}

// course is a place, and what stands behind it.
type course struct {
	place
	m *cells.Machine
	v event.Event
	x [waiters]event.Wait
}

func begun(t *testing.T) *course {
	m, v := fresh(t, 1+things, things+waiters, 0)
	m.Alloc(0, things)
	c := &course{m: m, v: v}
	for i := range waiters {
		c.x[i], c.found[i] = *v.Wait(), -1
	}
	return c
}

func (c *course) clone() *course {
	d := *c
	d.m = c.m.Clone()
	return &d
}

// told tells whether a thing is there that was told of.
func (c *course) told() bool {
	for i := range things {
		if c.there[i] == 1 && c.put[i] == 2 {
			return true
		}
	}
	return false
}

// puts lets one put its thing there, or tell.
func (c *course) puts(i int, r rules) bool {
	if c.put[i] == 2 {
		return false
	}
	if (c.put[i] == 0) == r.tellFirst {
		c.v.Tell(c.m, i)
		c.count++
	} else {
		c.m.Store(i, 1+i, 1)
		c.there[i] = 1
	}
	c.put[i]++
	return true
}

// waits lets one who waits do a step: it is ready, looks at each thing, and takes one or lies down.
func (c *course) waits(i int, r rules) bool {
	if c.how[i] == 2 && c.seen[i] == c.count {
		return false
	}
	order := []int{-1, 0, 1}
	if r.lookFirst {
		order = []int{0, 1, -1}
	}
	w := things + i
	switch k := c.at[i]; {
	case k < len(order) && order[k] < 0:
		c.x[i].Ready(c.m, w)
		c.how[i], c.seen[i] = 1, c.count
	case k < len(order):
		if n, _ := c.m.Load(w, 1+order[k]); n == 1 {
			c.found[i] = order[k]
		}
	case c.found[i] >= 0:
		if is, _ := c.m.CAS(w, 1+c.found[i], 1, 0); is {
			c.there[c.found[i]] = 0
		}
		c.x[i].Leave()
		c.found[i], c.how[i] = -1, 0
	default:
		c.x[i].Park()
		c.how[i] = 2
	}
	c.at[i] = (c.at[i] + 1) % (len(order) + 1)
	return true
}

// lost goes through all orders; in how many places one is parked, and in how many of these something is there that was told of.
func lost(t *testing.T, r rules) (parked, bad int) {
	todo := []*course{begun(t)}
	known := map[place]bool{todo[0].place: true}
	for len(todo) > 0 {
		c := todo[len(todo)-1]
		todo = todo[:len(todo)-1]
		for i := range waiters {
			is := c.how[i] == 2 && c.seen[i] == c.count
			if c.x[i].Parked(c.m) != is {
				t.Fatalf("waiter %d is parked: %v: %+v", i, !is, c.place)
			}
			if is {
				parked++
			}
			if is && c.told() {
				bad++
			}
		}
		for p := range things + waiters {
			d := c.clone()
			went := p < things && d.puts(p, r) || p >= things && d.waits(p-things, r)
			if went && !known[d.place] {
				known[d.place] = true
				todo = append(todo, d)
			}
		}
	}
	return parked, bad
}

// TestP113AllOrders goes through all orders in which things are put, told, looked for and taken.
func TestP113AllOrders(t *testing.T) {
	if parked, bad := lost(t, rules{}); parked == 0 || bad != 0 {
		t.Errorf("parked in %d places, and in %d of them though something is there", parked, bad)
	}
}

// TestP113Otherwise lets parties do things in another order: then one is parked though something is there, so the look at all orders would see it.
func TestP113Otherwise(t *testing.T) {
	for _, r := range []rules{{tellFirst: true}, {lookFirst: true}, {true, true}} {
		if _, bad := lost(t, r); bad == 0 {
			t.Errorf("%+v: nothing was lost", r)
		}
	}
}

// taker takes things, of which cell 1 tells how many are there.
type taker struct {
	x     *event.Wait
	at    int // the step that is next
	saw   int64
	taken int
}

func (k *taker) step(m *cells.Machine, w int) {
	switch {
	case k.at == 0:
		k.x.Ready(m, w)
		k.at = 1
	case k.at == 1:
		k.saw, _ = m.Load(w, 1)
		k.at = 2
	case k.saw == 0:
		k.x.Park()
		k.at = 0
	default:
		if is, _ := m.CAS(w, 1, k.saw, k.saw-1); is {
			k.taken++
		}
		k.x.Leave()
		k.at = 0
	}
}

// parked tells how many are parked.
func parked(l []taker, m *cells.Machine) int {
	n := 0
	for _, k := range l {
		if k.x.Parked(m) {
			n++
		}
	}
	return n
}

// TestP113Many lets many take, beside a driver who puts, in some orders of long runs; at the end all is taken, and all are parked.
func TestP113Many(t *testing.T) {
	const workers, all = 15, 40
	next := numbers()
	for run := range 60 {
		m, v := fresh(t, 2, workers, 0)
		m.Alloc(workers, 1)
		l := make([]taker, workers)
		for i := range l {
			l[i].x = v.Wait()
		}
		put, told := 0, 0
		for i := 0; told < all || parked(l, m) < workers; i++ {
			if i > 200000 {
				t.Fatalf("run %d: no end, with %d things there", run, m.Peek(1))
			}
			switch w := next(workers + 1); {
			case w < workers && !l[w].x.Parked(m):
				l[w].step(m, w)
			case w == workers && told < put && next(2) == 0:
				v.Tell(m, w)
				told++
			case w == workers && put < all && next(8) == 0:
				m.Add(w, 1, 1)
				put++
			}
			if n := parked(l, m); n > 0 && m.Peek(1) > int64(put-told) {
				t.Fatalf("run %d: %d are parked, with %d things there, and %d not told", run, n, m.Peek(1), put-told)
			}
		}
		taken := 0
		for _, k := range l {
			taken += k.taken
		}
		if m.Peek(1) != 0 || taken != all {
			t.Fatalf("run %d: %d are there, %d were taken", run, m.Peek(1), taken)
		}
	}
}
