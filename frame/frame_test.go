package frame_test

import (
	"math"
	"math/big"
	"reflect"
	"testing"

	"peloton/api"
	"peloton/code"
	"peloton/frame"
)

// edges is numbers of registers at which something may go round, or be taken for another.
var edges = []int64{0, 1, -1, 2, -2, 3, 1 << 31, -1 << 31, 1 << 32, 1<<32 - 1, 1<<62 + 1, math.MaxInt64, math.MinInt64, math.MaxInt64 - 1, math.MinInt64 + 1, 0x123456789abcdef}

// odd is numbers that are no register's, handle's, function's or place's.
var odd = []int{-1, 8, 9, 63, 64, 255, 256, 1 << 32, math.MaxInt, math.MinInt}

// task is a task of which no two numbers are the same.
func task() frame.Frame {
	return frame.Frame{Func: 3, PC: 40, R: [8]int64{100, -101, 102, -103, 104, -105, 106, -107}, H: [8]int{20, 21, -1, 23, 24, 25, -1, 27}, Steps: 77}
}

// tasks is some tasks, of those that the promises are for, the outermost among them.
func tasks() []frame.Frame {
	last := task()
	last.PC, last.Steps = math.MaxInt32, math.MaxInt32
	last.R = [8]int64{0, math.MinInt64, math.MaxInt64, 0, -1, 1, 1 << 32, 0}
	return []frame.Frame{frame.Root(), task(), last}
}

// some is instructions of all kinds, and of none, those that may not be among them.
func some() []api.Instr {
	var l []api.Instr
	for op := -2; op < 20; op++ {
		for _, a := range []int{-1, 0, 2, 7, 8} {
			for _, b := range []int{-1, 0, 2, 7, 8} {
				for _, c := range []int{-1, 0, 5, 7, 8} {
					for _, n := range []int{-1, 0, 1, 31, 32, 127, 128, 1 << 31} {
						l = append(l, api.Instr{Op: op, A: a, B: b, C: c, N: n})
					}
				}
			}
		}
	}
	return l
}

// each tells each of some instructions with each of some tasks.
func each(tell func(f frame.Frame, i api.Instr)) {
	for _, i := range some() {
		for _, f := range tasks() {
			tell(f, i)
		}
	}
}

// round is a number as a register has it: of 64 bits, the highest of which is below 0.
func round(x *big.Int) int64 {
	x.And(x, new(big.Int).SetUint64(math.MaxUint64))
	return int64(x.Uint64())
}

// value is what register A is behind an instruction, told by numbers that do not go round.
func value(f frame.Frame, i api.Instr) int64 {
	if i.Op == api.Const {
		return int64(i.N)
	}
	x, y, z := big.NewInt(f.R[i.B]), big.NewInt(f.R[i.C]), new(big.Int)
	switch i.Op {
	case api.Move:
		return f.R[i.B]
	case api.Add:
		return round(z.Add(x, y))
	case api.Sub:
		return round(z.Sub(x, y))
	case api.Mul:
		return round(z.Mul(x, y))
	}
	if x.Cmp(y) < 0 {
		return 1
	}
	return 0
}

// plain is the chapter's words of Plain.
func plain(f frame.Frame, i api.Instr) (frame.Frame, bool) {
	if code.Check(i) != api.OK || i.Op > api.If {
		return f, false
	}
	f.Steps++
	switch {
	case i.Op == api.Jump, i.Op == api.If && f.R[i.A] != 0:
		f.PC = i.N
		return f, true
	case i.Op != api.If:
		f.R[i.A] = value(f, i)
	}
	f.PC++
	return f, true
}

func TestP51Root(t *testing.T) {
	want := frame.Frame{Func: 0, PC: 0, R: [8]int64{}, H: [8]int{-1, -1, -1, -1, -1, -1, -1, -1}, Steps: 0}
	f := frame.Root()
	if f != want {
		t.Error(f)
	}
	f.H[0], f.R[0] = 5, 5
	if frame.Root() != want {
		t.Error("two roots share something")
	}
}

func TestP51Next(t *testing.T) {
	l := []api.Instr{{Op: api.Const, A: 1, N: 5}, {Op: 99, A: -1, B: 8, C: math.MaxInt, N: math.MinInt}, {Op: api.Return}}
	p := api.Program{Funcs: []api.Func{{Code: l}, {Code: l[:1]}, {}, {Needs: -1, Code: l[1:]}}}
	for f := -2; f < 7; f++ {
		for pc := -2; pc < 6; pc++ {
			at := task()
			at.Func, at.PC = f, pc
			var want api.Instr
			e := api.ErrNone
			if f >= 0 && f < 4 && pc >= 0 && pc < len(p.Funcs[f].Code) {
				want, e = p.Funcs[f].Code[pc], api.OK
			}
			if got, err := at.Next(p); got != want || err != e {
				t.Error(f, pc, got, err)
			}
		}
	}
	for _, n := range odd {
		for _, at := range []frame.Frame{{Func: n}, {PC: n}, {Func: n, PC: n}} {
			if got, e := at.Next(p); got != (api.Instr{}) || e != api.ErrNone {
				t.Error(n, got, e)
			}
		}
	}
	if got, e := frame.Root().Next(api.Program{}); got != (api.Instr{}) || e != api.ErrNone {
		t.Error(got, e)
	}
}

// TestP52Example is the chapter's own example.
func TestP52Example(t *testing.T) {
	f := frame.Root()
	for _, i := range []api.Instr{{Op: api.Const, A: 1, N: 7}, {Op: api.Add, A: 2, B: 1, C: 1}, {Op: api.Jump, N: 0}} {
		g, is := f.Plain(i)
		if !is {
			t.Fatal(i)
		}
		f = g
	}
	want := frame.Root()
	want.R[1], want.R[2], want.Steps = 7, 14, 3
	if f != want {
		t.Error(f)
	}
}

func TestP52Told(t *testing.T) {
	for _, c := range []struct {
		i  api.Instr
		at int // the register that turns; -1: none
		v  int64
		pc int
	}{
		{api.Instr{Op: api.Const, A: 4, N: -9}, 4, -9, 41},
		{api.Instr{Op: api.Const, A: 0, N: -1 << 31}, 0, -1 << 31, 41},
		{api.Instr{Op: api.Const, A: 7, N: 1<<31 - 1}, 7, 1<<31 - 1, 41},
		{api.Instr{Op: api.Move, A: 0, B: 7}, 0, -107, 41},
		{api.Instr{Op: api.Move, A: 7, B: 0}, 7, 100, 41},
		{api.Instr{Op: api.Add, A: 3, B: 1, C: 2}, 3, 1, 41},
		{api.Instr{Op: api.Sub, A: 3, B: 1, C: 2}, 3, -203, 41},
		{api.Instr{Op: api.Sub, A: 3, B: 2, C: 1}, 3, 203, 41},
		{api.Instr{Op: api.Mul, A: 3, B: 1, C: 2}, 3, -10302, 41},
		{api.Instr{Op: api.Less, A: 3, B: 1, C: 2}, 3, 1, 41},
		{api.Instr{Op: api.Less, A: 3, B: 2, C: 1}, 3, 0, 41},
		{api.Instr{Op: api.Less, A: 3, B: 2, C: 2}, 3, 0, 41},
		{api.Instr{Op: api.Add, A: 5, B: 5, C: 5}, 5, -210, 41},
		{api.Instr{Op: api.Sub, A: 5, B: 5, C: 5}, 5, 0, 41},
		{api.Instr{Op: api.Jump, N: 0}, -1, 0, 0},
		{api.Instr{Op: api.Jump, N: 40}, -1, 0, 40},
		{api.Instr{Op: api.Jump, N: 127}, -1, 0, 127},
		{api.Instr{Op: api.If, A: 1, N: 3}, -1, 0, 3},
		{api.Instr{Op: api.If, A: 0, N: 127}, -1, 0, 127},
	} {
		want := task()
		want.PC, want.Steps = c.pc, 78
		if c.at >= 0 {
			want.R[c.at] = c.v
		}
		if got, is := task().Plain(c.i); got != want || !is {
			t.Errorf("%v: %v, not %v (%v)", c.i, got, want, is)
		}
	}
}

func TestP52If(t *testing.T) {
	for a := range 8 {
		for _, v := range edges {
			f, pc := task(), 9
			f.R[a] = v
			if v == 0 {
				pc = 41
			}
			want := f
			want.PC, want.Steps = pc, 78
			if got, is := f.Plain(api.Instr{Op: api.If, A: a, N: 9}); got != want || !is {
				t.Error(a, v, got, is)
			}
		}
	}
}

// TestP52Numbers holds registers against numbers that do not go round.
func TestP52Numbers(t *testing.T) {
	for _, x := range edges {
		for _, y := range edges {
			for op := api.Add; op <= api.Less; op++ {
				f := task()
				f.R[6], f.R[2] = x, y
				i := api.Instr{Op: op, A: 1, B: 6, C: 2}
				if got, is := f.Plain(i); !is || got.R[1] != value(f, i) {
					t.Error(op, x, y, got.R[1])
				}
			}
		}
	}
}

func TestP52Registers(t *testing.T) {
	for n := range 8 * 8 * 8 {
		for op := api.Move; op <= api.Less; op++ {
			i := api.Instr{Op: op, A: n & 7, B: n >> 3 & 7, C: n >> 6}
			if op == api.Move {
				i.C = 0
			}
			want, _ := plain(task(), i)
			if got, is := task().Plain(i); got != want || !is {
				t.Fatal(i, got, is)
			}
		}
	}
}

func TestP52Others(t *testing.T) {
	for op := -300; op < 300; op++ {
		got, is := task().Plain(api.Instr{Op: op})
		if is != (op >= api.Const && op <= api.If) || !is && got != task() {
			t.Error(op, got, is)
		}
	}
	for _, op := range odd {
		if got, is := task().Plain(api.Instr{Op: op}); is || got != task() {
			t.Error(op, got, is)
		}
	}
	each(func(f frame.Frame, i api.Instr) {
		want, is := plain(f, i)
		if got, was := f.Plain(i); got != want || was != is {
			t.Fatalf("%v of %v: %v, not %v", i, f, got, want)
		}
	})
}

func TestP53Child(t *testing.T) {
	for needs, want := range map[int][8]int{
		0:               {-1, -1, -1, -1, -1, -1, -1, -1},
		1:               {20, -1, -1, -1, -1, -1, -1, -1},
		128:             {-1, -1, -1, -1, -1, -1, -1, 27},
		1 + 8 + 32:      {20, -1, -1, 23, -1, 25, -1, -1},
		4:               {-1, -1, -1, -1, -1, -1, -1, -1}, // one that is needed may be of no future
		255:             {20, 21, -1, 23, 24, 25, -1, 27},
		256:             {-1, -1, -1, -1, -1, -1, -1, -1},
		256 + 2:         {-1, 21, -1, -1, -1, -1, -1, -1},
		1<<40 + 16:      {-1, -1, -1, -1, 24, -1, -1, -1},
		-1:              {20, 21, -1, 23, 24, 25, -1, 27},
		-128:            {-1, -1, -1, -1, -1, -1, -1, 27},
		math.MinInt:     {-1, -1, -1, -1, -1, -1, -1, -1},
		math.MaxInt:     {20, 21, -1, 23, 24, 25, -1, 27},
		math.MaxInt - 1: {-1, 21, -1, 23, 24, 25, -1, 27},
	} {
		p := api.Program{Funcs: []api.Func{{Needs: 255}, {Needs: 255}, {Needs: needs}, {Needs: 255}}}
		c, e := task().Child(p, api.Instr{Op: api.Fork, A: 4, N: 2})
		if e != api.OK || c != (frame.Frame{Func: 2, R: task().R, H: want}) {
			t.Error(needs, c, e)
		}
	}
	for needs := range 256 {
		p := api.Program{Funcs: []api.Func{{Needs: needs}}}
		f := task()
		f.H = [8]int{50, 51, 52, 53, 54, 55, 56, 57}
		want := f
		want.Func, want.PC, want.Steps = 0, 0, 0
		for k, bit := range []int{1, 2, 4, 8, 16, 32, 64, 128} {
			if needs%(2*bit) < bit {
				want.H[k] = -1
			}
		}
		if c, e := f.Child(p, api.Instr{Op: api.Fork}); c != want || e != api.OK {
			t.Error(needs, c, e)
		}
	}
}

func TestP53ChildRefused(t *testing.T) {
	p := api.Program{Funcs: make([]api.Func, 32)}
	for n := range 32 {
		i := api.Instr{Op: api.Fork, A: 7, N: n}
		for funcs := range 33 {
			want, err := frame.Frame{}, api.ErrNone
			if n < funcs {
				want, err = frame.Frame{Func: n, R: task().R, H: frame.Root().H}, api.OK
			}
			q := api.Program{Funcs: p.Funcs[:funcs]} // those behind its length do not count
			if c, e := task().Child(q, i); c != want || e != err {
				t.Error(n, funcs, c, e)
			}
		}
	}
	each(func(f frame.Frame, i api.Instr) {
		if i.Op == api.Fork && code.Check(i) == api.OK {
			return
		}
		for _, q := range []api.Program{p, {}} { // ErrArg is told first
			if c, e := f.Child(q, i); c != (frame.Frame{}) || e != api.ErrArg {
				t.Fatal(i, c, e)
			}
		}
	})
	for _, n := range odd {
		for _, i := range []api.Instr{{Op: api.Fork, A: n}, {Op: api.Fork, B: n}, {Op: api.Fork, C: n}, {Op: api.Fork, N: n | 32}, {Op: n, B: 1}} {
			if c, e := task().Child(p, i); c != (frame.Frame{}) || e != api.ErrArg {
				t.Error(i, c, e)
			}
		}
	}
}

func TestP53Forked(t *testing.T) {
	for a := range 8 {
		for _, id := range []int{0, 1, -1, 26, math.MaxInt, math.MinInt} {
			want := task()
			want.H[a], want.PC, want.Steps = id, 41, 78
			if got := task().Forked(api.Instr{Op: api.Fork, A: a, N: 31}, id); got != want {
				t.Error(a, id, got)
			}
		}
	}
	each(func(f frame.Frame, i api.Instr) {
		want := f
		if i.Op == api.Fork && code.Check(i) == api.OK {
			want.H[i.A], want.PC, want.Steps = 9, f.PC+1, f.Steps+1
		}
		if got := f.Forked(i, 9); got != want {
			t.Fatalf("%v of %v: %v, not %v", i, f, got, want)
		}
	})
}

func TestP54Join(t *testing.T) {
	for _, v := range edges {
		for n := range 8 * 8 {
			i := api.Instr{Op: api.Join, A: n & 7, B: n >> 3}
			f := task()
			f.H[i.B] = -1 // whose future it was does not matter
			want := f
			want.R[i.A], want.PC, want.Steps = v, 41, 78
			if got, c, is := f.Joined(i, api.Value, v); got != want || c != 0 || is {
				t.Error(i, v, got, c, is)
			}
			want = f
			want.Steps = 78
			if got, c, is := f.Joined(i, api.Panicked, v); got != want || c != v || !is {
				t.Error(i, v, got, c, is)
			}
			if got, c, is := f.Joined(i, api.Cancelled, v); got != want || c != -1 || !is {
				t.Error(i, v, got, c, is)
			}
		}
	}
}

func TestP54Try(t *testing.T) {
	for n := range 8 * 8 * 8 {
		i := api.Instr{Op: api.Try, A: n & 7, B: n >> 3 & 7, C: n >> 6}
		for kind, how := range map[int]int64{api.Value: 0, api.Panicked: 1, api.Cancelled: 2} {
			for _, v := range edges {
				want := task()
				want.R[i.A] = v
				if kind == api.Cancelled {
					want.R[i.A] = 0
				}
				want.R[i.B] = how // behind that of register A: where they are one, it stays
				want.PC, want.Steps = 41, 78
				if got, c, is := task().Joined(i, kind, v); got != want || c != 0 || is {
					t.Error(i, kind, v, got, c, is)
				}
			}
		}
	}
}

func TestP54Others(t *testing.T) {
	for _, i := range []api.Instr{{Op: api.Join, A: 1, B: 2}, {Op: api.Try, A: 1, B: 2, C: 3}} {
		for _, kind := range append([]int{api.Pending, api.Running, 5, 6, -2, api.Value + 256, api.Value + 1<<32}, odd...) {
			if got, c, is := task().Joined(i, kind, 9); got != task() || c != 0 || is {
				t.Error(i, kind, got, c, is)
			}
		}
	}
	each(func(f frame.Frame, i api.Instr) {
		if (i.Op == api.Join || i.Op == api.Try) && code.Check(i) == api.OK {
			return
		}
		for kind := -1; kind < 7; kind++ {
			if got, c, is := f.Joined(i, kind, 9); got != f || c != 0 || is {
				t.Fatal(i, kind, got, c, is)
			}
		}
	})
}

func TestP55Closed(t *testing.T) {
	for a := range 8 {
		for asked, v := range map[bool]int64{false: 0, true: 1} {
			want := task()
			want.R[a], want.PC, want.Steps = v, 41, 78
			if got := task().Closed(api.Instr{Op: api.Close, A: a}, asked); got != want {
				t.Error(a, asked, got)
			}
		}
	}
	each(func(f frame.Frame, i api.Instr) {
		if i.Op == api.Close && code.Check(i) == api.OK {
			return
		}
		if f.Closed(i, false) != f || f.Closed(i, true) != f {
			t.Fatal(i, f.Closed(i, false), f.Closed(i, true))
		}
	})
}

func TestP55Passed(t *testing.T) {
	for _, f := range tasks() {
		want := f
		want.PC++
		want.Steps++
		if got := f.Passed(); got != want {
			t.Errorf("%v: %v", f, got)
		}
	}
}

// behind is all that an instruction may make of a task, whichever call is asked.
func behind(f frame.Frame, i api.Instr) []frame.Frame {
	g, _ := f.Plain(i)
	l := []frame.Frame{g, f.Forked(i, 9), f.Closed(i, false), f.Closed(i, true)}
	for kind := api.Pending; kind <= api.Cancelled; kind++ {
		g, _, _ := f.Joined(i, kind, 9)
		l = append(l, g)
	}
	return l
}

func TestP56Little(t *testing.T) {
	each(func(f frame.Frame, i api.Instr) {
		most := 1
		if i.Op == api.Try {
			most = 2
		}
		for _, g := range behind(f, i) {
			registers, handles := 0, 0
			for k := range 8 {
				if g.R[k] != f.R[k] {
					registers++
				}
				if g.H[k] != f.H[k] {
					handles++
				}
			}
			step := g.Steps == f.Steps+1
			if !step && g != f || g.Func != f.Func || registers > most || handles > 1 || registers > 0 && handles > 0 {
				t.Fatalf("%v of %v: %v", i, f, g)
			}
		}
	})
}

// do is what an instruction makes of two numbers.
func do(t *testing.T, op int, x, y int64) int64 {
	f := frame.Root()
	f.R[1], f.R[2] = x, y
	g, is := f.Plain(api.Instr{Op: op, A: 3, B: 1, C: 2})
	if !is {
		t.Fatal(op)
	}
	return g.R[3]
}

func TestP56Ring(t *testing.T) {
	add := func(x, y int64) int64 { return do(t, api.Add, x, y) }
	sub := func(x, y int64) int64 { return do(t, api.Sub, x, y) }
	mul := func(x, y int64) int64 { return do(t, api.Mul, x, y) }
	for _, x := range edges {
		if add(x, 0) != x || mul(x, 1) != x || mul(x, 0) != 0 || add(x, sub(0, x)) != 0 {
			t.Error(x)
		}
		for _, y := range edges {
			if add(x, y) != add(y, x) || mul(x, y) != mul(y, x) || sub(x, y) != add(x, sub(0, y)) {
				t.Error(x, y)
			}
			for _, z := range edges {
				if add(add(x, y), z) != add(x, add(y, z)) || mul(mul(x, y), z) != mul(x, mul(y, z)) || mul(x, add(y, z)) != add(mul(x, y), mul(x, z)) {
					t.Error(x, y, z)
				}
			}
		}
	}
}

// TestP56Apart lets tasks have other handles: nothing else is another thing then.
func TestP56Apart(t *testing.T) {
	each(func(f frame.Frame, i api.Instr) {
		other := f
		other.H = [8]int{-1, 0, 90, -1, 92, 1, 94, 95}
		was, is := behind(f, i), behind(other, i)
		for k, g := range is {
			g.H = was[k].H
			if g != was[k] {
				t.Fatalf("%v of %v, with other handles: %v, not %v", i, f, g, was[k])
			}
		}
	})
}

// TestMemory holds what is handed in, and what lies behind its length, against what it was (R2).
func TestMemory(t *testing.T) {
	make2 := func() api.Program {
		l := []api.Instr{{Op: api.Fork, A: 1, N: 1}, {Op: api.Return}, {Op: 50}}
		return api.Program{Funcs: []api.Func{{Code: l[:2]}, {Needs: 6, Code: l[:1]}, {Needs: 7}}[:2]}
	}
	p, f := make2(), frame.Root()
	i, _ := f.Next(p)
	c, e := f.Child(p, i)
	if e != api.OK || f != frame.Root() {
		t.Error(c, e, f)
	}
	c.Plain(api.Instr{Op: api.Const, N: 5})
	f.Forked(i, 3)
	q := make2()
	if f != frame.Root() || c.R[0] != 0 || !reflect.DeepEqual(p.Funcs[:3], q.Funcs[:3]) || !reflect.DeepEqual(p.Funcs[0].Code[:3], q.Funcs[0].Code[:3]) {
		t.Error("what is handed in is written into")
	}
}

// TestWild hands in tasks for which nothing is promised, but that each call ends, and none panics (R1).
func TestWild(t *testing.T) {
	p := api.Program{Funcs: []api.Func{{Needs: 3, Code: []api.Instr{{Op: api.Fork}}}}}
	for _, n := range odd {
		f := frame.Frame{Func: n, PC: n, Steps: n}
		for k := range 8 {
			f.R[k], f.H[k] = int64(n), n
		}
		f.Passed()
		for _, i := range append(some(), api.Instr{Op: n, A: n, B: n, C: n, N: n}) {
			f.Next(p)
			f.Child(p, i)
			f.Child(api.Program{}, i)
			f.Joined(i, n, int64(n))
			behind(f, i)
		}
	}
}
