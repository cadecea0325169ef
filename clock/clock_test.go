package clock_test

import (
	"cmp"
	"math"
	"slices"
	"strconv"
	"testing"

	"peloton/api"
	"peloton/clock"
)

// numbers is a row of numbers that is the same each time.
func numbers() func(n int) int {
	seed := uint32(13)
	return func(n int) int {
		seed = seed*1664525 + 1013904223
		return int(seed>>8) % n
	}
}

// due is a deadline, and whose it is.
type due struct {
	at int64
	id int
}

// listed is all deadlines of a clock, as a clone of it tells them, one by one.
func listed(t *testing.T, c *clock.Clock) []due {
	t.Helper()
	c = c.Clone()
	var l []due
	for n := c.Len(); n > 0; n-- {
		at, id, is := c.Next()
		if !is || !c.Drop(id) || c.Len() != n-1 {
			t.Fatal("a deadline that is next, and is not there: ", at, id, is, c.Len())
		}
		l = append(l, due{at, id})
	}
	if at, id, is := c.Next(); at != 0 || id != 0 || is {
		t.Fatal("none is left, and yet: ", at, id, is)
	}
	return l
}

// holds looks whether a clock is at now, and has those deadlines, the sooner ones first.
func holds(t *testing.T, c *clock.Clock, now int64, want ...due) {
	t.Helper()
	if got := listed(t, c); c.Now() != now || c.Len() != len(want) || !slices.Equal(got, want) {
		t.Fatal("at ", c.Now(), c.Len(), got, ", not ", now, want)
	}
}

// set gives deadlines away that may be given.
func set(t *testing.T, c *clock.Clock, id int, in int64) {
	t.Helper()
	if e := c.Set(id, in); e != api.OK {
		t.Fatal("Set", id, in, e)
	}
}

// goes lets a clock go on, and looks at what it tells.
func goes(t *testing.T, c *clock.Clock, n int64, want ...int) {
	t.Helper()
	if got, e := c.Advance(n); e != api.OK || !slices.Equal(got, want) {
		t.Fatal("Advance", n, got, e, ", not ", want)
	}
}

// model is a clock without a heap: a list that is sorted whenever it is asked.
type model struct {
	now int64
	l   []due
}

func (m *model) find(id int) int {
	return slices.IndexFunc(m.l, func(d due) bool { return d.id == id })
}

func (m *model) sorted() []due {
	l := slices.Clone(m.l)
	slices.SortFunc(l, func(a, b due) int { return cmp.Or(cmp.Compare(a.at, b.at), cmp.Compare(a.id, b.id)) })
	return l
}

func (m *model) set(id int, in int64) api.Errno {
	switch {
	case id < 0 || in < 1 || in > 1<<40:
		return api.ErrRange
	case m.find(id) >= 0:
		return api.ErrThere
	}
	m.l = append(m.l, due{m.now + in, id})
	return api.OK
}

func (m *model) drop(id int) bool {
	at := m.find(id)
	if at >= 0 {
		m.l = slices.Delete(m.l, at, at+1)
	}
	return at >= 0
}

func (m *model) advance(n int64) ([]int, api.Errno) {
	if n < 0 || n > 1<<40 || m.now+n > 1<<40 {
		return nil, api.ErrRange
	}
	m.now += n
	var came []int
	for _, d := range m.sorted() {
		if d.at <= m.now {
			came = append(came, d.id)
			m.drop(d.id)
		}
	}
	return came, api.OK
}

// orders are all orders of n things.
func orders(n int) [][]int {
	if n == 0 {
		return [][]int{nil}
	}
	var all [][]int
	for _, o := range orders(n - 1) {
		for at := range n {
			all = append(all, slices.Insert(slices.Clone(o), at, n-1))
		}
	}
	return all
}

// --- P13.1

func TestP131New(t *testing.T) {
	c := clock.New()
	if c == nil {
		t.Fatal("no clock")
	}
	holds(t, c, 0)
	d := clock.New()
	set(t, d, 1, 5)
	goes(t, d, 2)
	holds(t, d, 2, due{5, 1})
	holds(t, c, 0)
}

func TestP131NowGoesOnOnlyAsItIsTold(t *testing.T) {
	c := clock.New()
	set(t, c, 1, 5)
	set(t, c, 2, 7)
	c.Drop(2)
	c.Next()
	c.Clone()
	if c.Now() != 0 {
		t.Error(c.Now())
	}
	goes(t, c, 3)
	if c.Now() != 3 {
		t.Error(c.Now())
	}
	goes(t, c, 0)
	goes(t, c, 4, 1)
	if c.Now() != 7 {
		t.Error(c.Now())
	}
}

func TestP131Len(t *testing.T) {
	c := clock.New()
	for n := range 20 {
		set(t, c, n*3, int64(20-n))
		if c.Len() != n+1 {
			t.Fatal(n, c.Len())
		}
	}
	c.Drop(30)
	c.Drop(31)
	c.Set(0, 5)
	c.Set(-1, 5)
	if c.Len() != 19 {
		t.Error(c.Len())
	}
	goes(t, c, 3, 57, 54, 51)
	if c.Len() != 16 {
		t.Error(c.Len())
	}
}

func TestP131CloneIsTheSame(t *testing.T) {
	c := clock.New()
	goes(t, c, 4)
	set(t, c, 5, 6)
	set(t, c, 3, 6)
	set(t, c, 8, api.MaxTime)
	d := c.Clone()
	if d == nil || d == c {
		t.Fatal("no clock of its own")
	}
	holds(t, d, 4, due{10, 3}, due{10, 5}, due{api.MaxTime + 4, 8})
	if e := d.Set(5, 1); e != api.ErrThere {
		t.Error(e)
	}
	goes(t, d, 6, 3, 5)
	holds(t, clock.New().Clone(), 0)
}

func TestP131CloneIsOfItsOwn(t *testing.T) {
	turns := []func(c *clock.Clock){
		func(c *clock.Clock) { c.Set(7, 1) },
		func(c *clock.Clock) { c.Set(7, 30) },
		func(c *clock.Clock) { c.Drop(1) },
		func(c *clock.Clock) { c.Drop(4) },
		func(c *clock.Clock) { c.Advance(1) },
		func(c *clock.Clock) { c.Advance(5) },
		func(c *clock.Clock) { c.Advance(50) },
		func(c *clock.Clock) { c.Drop(1); c.Set(9, 2); c.Set(1, 9) },
	}
	made := func() *clock.Clock {
		c := clock.New()
		for i := range 6 {
			set(t, c, i, int64(3*i%7+2))
		}
		return c
	}
	want := listed(t, made())
	for i, turn := range turns {
		c := made()
		d := c.Clone()
		turn(d)
		if i != 4 && slices.Equal(listed(t, d), want) || i == 4 && d.Now() != 1 {
			t.Error(i, "nothing turned")
		}
		holds(t, c, 0, want...)
		d = c.Clone()
		turn(c)
		holds(t, d, 0, want...)
		for _, w := range want { // what it has for finding them is its own, too
			if e := d.Set(w.id, 1); e != api.ErrThere {
				t.Error(i, w, e)
			}
		}
		if d.Drop(7) || d.Drop(9) {
			t.Error(i, "an id that the other one has")
		}
	}
}

func TestP131OfNil(t *testing.T) {
	var c *clock.Clock
	if c.Now() != 0 || c.Len() != 0 || c.Clone() != nil {
		t.Error(c.Now(), c.Len(), c.Clone())
	}
}

// --- P13.2

func TestP132Set(t *testing.T) {
	c := clock.New()
	set(t, c, 4, 10)
	holds(t, c, 0, due{10, 4})
	goes(t, c, 3)
	set(t, c, 0, 1)
	set(t, c, math.MaxInt, api.MaxTime)
	set(t, c, 1, api.MaxTime-3)
	holds(t, c, 3, due{4, 0}, due{10, 4}, due{api.MaxTime, 1}, due{api.MaxTime + 3, math.MaxInt})
}

func TestP132SetAtTheEndOfTime(t *testing.T) {
	c := clock.New()
	goes(t, c, api.MaxTime)
	set(t, c, 1, 1)
	set(t, c, 0, api.MaxTime)
	holds(t, c, api.MaxTime, due{api.MaxTime + 1, 1}, due{2 * api.MaxTime, 0})
}

func TestP132SetIsRefused(t *testing.T) {
	c := clock.New()
	goes(t, c, 2)
	set(t, c, 3, 5)
	set(t, c, 6, 4)
	for _, x := range []struct {
		id int
		in int64
		e  api.Errno
	}{
		{-1, 5, api.ErrRange},
		{math.MinInt, 5, api.ErrRange},
		{1, 0, api.ErrRange},
		{1, -1, api.ErrRange},
		{1, math.MinInt64, api.ErrRange},
		{1, api.MaxTime + 1, api.ErrRange},
		{1, math.MaxInt64, api.ErrRange},
		{-1, 0, api.ErrRange},
		{3, 5, api.ErrThere},
		{3, 1, api.ErrThere},
		{3, api.MaxTime, api.ErrThere},
		{6, 9, api.ErrThere},
		{3, 0, api.ErrRange}, // named first
		{3, api.MaxTime + 1, api.ErrRange},
	} {
		if e := c.Set(x.id, x.in); e != x.e {
			t.Error(x, e)
		}
		holds(t, c, 2, due{6, 6}, due{7, 3})
	}
}

func TestP132SetAgainWhenItIsGone(t *testing.T) {
	c := clock.New()
	set(t, c, 3, 5)
	c.Drop(3)
	set(t, c, 3, 7)
	holds(t, c, 0, due{7, 3})
	goes(t, c, 7, 3)
	set(t, c, 3, 2)
	holds(t, c, 7, due{9, 3})
	goes(t, c, 2, 3)
}

func TestP132Drop(t *testing.T) {
	c := clock.New()
	if c.Drop(0) {
		t.Error("of none")
	}
	set(t, c, 4, 10)
	set(t, c, 0, 3)
	set(t, c, 2, 10)
	for _, id := range []int{1, 3, 5, 10, -1, math.MinInt, math.MaxInt} {
		if c.Drop(id) {
			t.Error(id)
		}
		holds(t, c, 0, due{3, 0}, due{10, 2}, due{10, 4})
	}
	if !c.Drop(2) || c.Drop(2) {
		t.Error("once")
	}
	holds(t, c, 0, due{3, 0}, due{10, 4})
	if !c.Drop(0) || c.Drop(0) {
		t.Error("once")
	}
	goes(t, c, 10, 4)
	if c.Drop(4) {
		t.Error("one that has come")
	}
	holds(t, c, 10)
}

func TestP132DropInAllOrders(t *testing.T) {
	in := []int64{9, 2, 5, 5, 1, 7}
	for _, o := range orders(len(in)) {
		c, m := clock.New(), &model{}
		for id, x := range in {
			set(t, c, id, x)
			m.set(id, x)
		}
		for _, id := range o {
			if !c.Drop(id) || c.Drop(id) {
				t.Fatal(o, id)
			}
			m.drop(id)
			holds(t, c, 0, m.sorted()...)
		}
	}
}

func TestP132Next(t *testing.T) {
	c := clock.New()
	for i, x := range []struct {
		id   int
		in   int64
		next due
	}{
		{5, 10, due{10, 5}},
		{7, 10, due{10, 5}}, // of two that are the same, the lesser id
		{2, 10, due{10, 2}},
		{1, 11, due{10, 2}}, // the lesser id, but not the lesser deadline
		{9, 9, due{9, 9}},
		{0, 10, due{9, 9}},
	} {
		set(t, c, x.id, x.in)
		for range 2 { // it tells, and takes nothing
			if at, id, is := c.Next(); at != x.next.at || id != x.next.id || !is {
				t.Error(i, at, id, is)
			}
		}
	}
	holds(t, c, 0, due{9, 9}, due{10, 0}, due{10, 2}, due{10, 5}, due{10, 7}, due{11, 1})
}

func TestP132NextOfNone(t *testing.T) {
	c := clock.New()
	for range 2 {
		if at, id, is := c.Next(); at != 0 || id != 0 || is {
			t.Error(at, id, is)
		}
		set(t, c, 6, 4)
		goes(t, c, 4, 6)
	}
}

func TestP132OfNil(t *testing.T) {
	var c *clock.Clock
	for _, id := range []int{-1, 0, 1} {
		for _, in := range []int64{0, 1, api.MaxTime + 1} {
			if e := c.Set(id, in); e != api.ErrNil {
				t.Error(id, in, e)
			}
		}
		if c.Drop(id) {
			t.Error(id)
		}
	}
	if at, id, is := c.Next(); at != 0 || id != 0 || is {
		t.Error(at, id, is)
	}
}

// --- P13.3

func TestP133Example(t *testing.T) {
	c := clock.New()
	set(t, c, 4, 10)
	set(t, c, 2, 10)
	set(t, c, 9, 3)
	if at, id, is := c.Next(); at != 3 || id != 9 || !is {
		t.Error(at, id, is)
	}
	goes(t, c, 2)
	set(t, c, 1, 8)
	goes(t, c, 8, 9, 1, 2, 4)
	if c.Now() != 10 || c.Len() != 0 {
		t.Error(c.Now(), c.Len())
	}
}

func TestP133TellsWhatIsNotAbove(t *testing.T) {
	c := clock.New()
	set(t, c, 1, 4)
	set(t, c, 2, 5)
	set(t, c, 3, 6)
	goes(t, c, 3)
	holds(t, c, 3, due{4, 1}, due{5, 2}, due{6, 3})
	goes(t, c, 2, 1, 2)
	holds(t, c, 5, due{6, 3})
	goes(t, c, 0)
	holds(t, c, 5, due{6, 3})
	goes(t, c, 1, 3)
	holds(t, c, 6)
	goes(t, c, 100)
	holds(t, c, 106)
}

func TestP133IsRefused(t *testing.T) {
	c := clock.New()
	set(t, c, 1, 4)
	set(t, c, 2, api.MaxTime)
	for _, n := range []int64{-1, math.MinInt64, api.MaxTime + 1, math.MaxInt64} {
		if l, e := c.Advance(n); len(l) != 0 || e != api.ErrRange {
			t.Error(n, l, e)
		}
		holds(t, c, 0, due{4, 1}, due{api.MaxTime, 2})
	}
	goes(t, c, 3)
	for _, n := range []int64{-1, -3, math.MinInt64, api.MaxTime - 2, api.MaxTime, math.MaxInt64 - 2, math.MaxInt64} {
		if l, e := c.Advance(n); len(l) != 0 || e != api.ErrRange {
			t.Error(n, l, e)
		}
		holds(t, c, 3, due{4, 1}, due{api.MaxTime, 2})
	}
	goes(t, c, api.MaxTime-3, 1, 2)
	for _, n := range []int64{1, -1, api.MaxTime, math.MaxInt64} {
		if l, e := c.Advance(n); len(l) != 0 || e != api.ErrRange {
			t.Error(n, l, e)
		}
	}
	goes(t, c, 0)
	holds(t, c, api.MaxTime)
}

func TestP133WhatIsAboveMaxTimeNeverComes(t *testing.T) {
	c := clock.New()
	goes(t, c, 1)
	set(t, c, 5, api.MaxTime-1)
	set(t, c, 6, api.MaxTime)
	goes(t, c, api.MaxTime-1, 5)
	holds(t, c, api.MaxTime, due{api.MaxTime + 1, 6})
	goes(t, c, 0)
	if !c.Drop(6) || c.Len() != 0 {
		t.Error("it can be dropped")
	}
}

func TestP133WhatIsToldIsTheCallers(t *testing.T) {
	c := clock.New()
	for id := range 8 {
		set(t, c, id, int64(id%4+1))
	}
	l, e := c.Advance(2)
	if !slices.Equal(l, []int{0, 4, 1, 5}) || e != api.OK {
		t.Fatal(l, e)
	}
	for i := range l[:cap(l)] {
		l[:cap(l)][i] = 99
	}
	holds(t, c, 2, due{3, 2}, due{3, 6}, due{4, 3}, due{4, 7})
	k, e := c.Advance(2)
	if !slices.Equal(k, []int{2, 6, 3, 7}) || e != api.OK || !slices.Equal(l, []int{99, 99, 99, 99}) {
		t.Error(k, e, l)
	}
}

func TestP133OfNil(t *testing.T) {
	var c *clock.Clock
	for _, n := range []int64{-1, 0, 1, math.MaxInt64} {
		if l, e := c.Advance(n); len(l) != 0 || e != api.ErrNil {
			t.Error(n, l, e)
		}
	}
}

// --- P13.4

// TestP134TwoAdvancesAreOne cuts a way of twelve ticks into two, three and single ones.
func TestP134TwoAdvancesAreOne(t *testing.T) {
	const way = 12
	next := numbers()
	for range 200 {
		c := clock.New()
		for range 9 {
			c.Set(next(30), int64(next(way+3)+1))
		}
		whole := c.Clone()
		want, _ := whole.Advance(way)
		rest := listed(t, whole)
		for first := range int64(way + 1) {
			for second := range way - first + 1 {
				d := c.Clone()
				var got []int
				for _, n := range []int64{first, second, way - first - second} {
					l, e := d.Advance(n)
					if e != api.OK {
						t.Fatal(n, e)
					}
					got = append(got, l...)
				}
				if !slices.Equal(got, want) {
					t.Fatal(first, second, got, want)
				}
				holds(t, d, way, rest...)
			}
		}
		var got []int
		for range way {
			l, _ := c.Advance(1)
			got = append(got, l...)
		}
		if !slices.Equal(got, want) {
			t.Fatal(got, want)
		}
		holds(t, c, way, rest...)
	}
}

// TestP134InWhichOrderTheyWereSet sets the same deadlines in all orders, and some of them later, from nearer on.
func TestP134InWhichOrderTheyWereSet(t *testing.T) {
	plan := []due{{6, 3}, {6, 1}, {4, 8}, {6, 2}, {9, 0}, {4, 5}}
	want := []due{{4, 5}, {4, 8}, {6, 1}, {6, 2}, {6, 3}, {9, 0}}
	for _, o := range orders(len(plan)) {
		for late := range len(plan) + 1 {
			c := clock.New()
			for i, k := range o {
				if i == late {
					goes(t, c, 2)
				}
				set(t, c, plan[k].id, plan[k].at-c.Now())
			}
			goes(t, c, 2-c.Now())
			holds(t, c, 2, want...)
			goes(t, c, 7, 5, 8, 1, 2, 3, 0)
		}
	}
}

// TestP134WhatCameAndWentIsNotTold has others set and dropped in between, which leaves a heap of another build behind.
func TestP134WhatCameAndWentIsNotTold(t *testing.T) {
	next := numbers()
	for round := range 200 {
		c, d := clock.New(), clock.New()
		for id := range 12 {
			in := int64(next(6) + 1)
			set(t, c, id, in)
			set(t, d, id, in)
			set(t, d, 100+id, int64(next(9)+1))
		}
		for id := range 12 {
			if !d.Drop(100 + (id*5+round)%12) {
				t.Fatal(id)
			}
		}
		holds(t, d, 0, listed(t, c)...)
		for range 7 {
			l, _ := c.Advance(1)
			goes(t, d, 1, l...)
		}
	}
}

// TestP134EachComesJustOnce holds long runs of all calls against a model, and counts what comes.
func TestP134EachComesJustOnce(t *testing.T) {
	for _, ids := range []int{1, 3, 10, 60} {
		t.Run(strconv.Itoa(ids), func(t *testing.T) {
			next := numbers()
			c, m := clock.New(), &model{}
			were, gone := 0, 0
			for step := range 6000 {
				switch id := next(ids+2) - 1; next(5) {
				case 0, 1, 2:
					in := int64(next(22) - 1)
					want := m.set(id, in)
					if e := c.Set(id, in); e != want {
						t.Fatal(step, id, in, e, want)
					}
					if want == api.OK {
						were++
					}
				case 3:
					want := m.drop(id)
					if is := c.Drop(id); is != want {
						t.Fatal(step, id, is, want)
					}
					if want {
						gone++
					}
				case 4:
					n := int64(next(9) - 1)
					want, as := m.advance(n)
					if l, e := c.Advance(n); !slices.Equal(l, want) || e != as {
						t.Fatal(step, n, l, e, want, as)
					}
					gone += len(want)
				}
				holds(t, c, m.now, m.sorted()...)
			}
			if were != gone+c.Len() || gone == 0 {
				t.Error(were, gone, c.Len())
			}
		})
	}
}

// TestP134Many has as many deadlines as one would not search one by one.
func TestP134Many(t *testing.T) {
	const many = 1 << 17
	c := clock.New()
	for i := range many {
		set(t, c, i*40503%many, int64(i%1000+1))
	}
	for i := 0; i < many; i += 2 {
		if !c.Drop(i) {
			t.Fatal(i)
		}
	}
	told := 0
	last := -1
	for c.Len() > 0 {
		at, id, _ := c.Next()
		l, e := c.Advance(at - c.Now())
		if e != api.OK || len(l) == 0 || l[0] != id || !slices.IsSorted(l) || c.Now() != at {
			t.Fatal(at, id, e, len(l))
		}
		for _, id := range l {
			if id%2 == 0 || id == last {
				t.Fatal(id)
			}
			last = id
		}
		told += len(l)
	}
	if told != many/2 || c.Now() != 1000 {
		t.Error(told, c.Now())
	}
}
