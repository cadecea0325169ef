package check_test

import (
	"cmp"
	"math"
	"reflect"
	"slices"
	"testing"

	"peloton/api"
	"peloton/check"
	"peloton/code"
)

// numbers tells the same row of numbers each time: of n, the next one is from 0 to n less 1.
func numbers() func(n int) int {
	seed := uint32(7)
	return func(n int) int {
		seed = seed*1664525 + 1013904223
		return int(seed>>8) % n
	}
}

func op(n int) api.Instr               { return api.Instr{Op: n} }
func constant(n int) api.Instr         { return api.Instr{Op: api.Const, N: n} }
func jump(n int) api.Instr             { return api.Instr{Op: api.Jump, N: n} }
func branch(n int) api.Instr           { return api.Instr{Op: api.If, N: n} }
func fork(h, f int) api.Instr          { return api.Instr{Op: api.Fork, A: h, N: f} }
func join(h int) api.Instr             { return api.Instr{Op: api.Join, B: h} }
func try(h int) api.Instr              { return api.Instr{Op: api.Try, C: h} }
func open(n int) api.Instr             { return api.Instr{Op: api.Open, N: n} }
func one(l ...api.Instr) api.Func      { return api.Func{Code: l} }
func needs(n int) api.Func             { return api.Func{Needs: n, Code: []api.Instr{op(api.Return)}} }
func plan(l ...api.Func) api.Program   { return api.Program{Funcs: l} }
func alone(l ...api.Instr) api.Program { return plan(one(l...)) }

// row is n instructions, the last one of which is a Return.
func row(n int) []api.Instr {
	return append(slices.Repeat([]api.Instr{op(api.Check)}, n-1), op(api.Return))
}

// next is what comes behind an instruction, as the chapter's words have it.
func next(l []api.Instr, at int) []int {
	var to []int
	switch l[at].Op {
	case api.Jump:
		to = []int{l[at].N}
	case api.If:
		to = []int{l[at].N, at + 1}
	case api.Return, api.Panic:
	default:
		to = []int{at + 1}
	}
	return slices.DeleteFunc(to, func(n int) bool { return n < 0 || n >= len(l) })
}

// depthsOf counts, for each instruction anew, what stands ahead of it.
func depthsOf(l []api.Instr) []int {
	out := make([]int, len(l))
	for at := range l {
		for _, i := range l[:at] {
			if i.Op == api.Open {
				out[at]++
			}
			if i.Op == api.Close {
				out[at]--
			}
		}
	}
	return out
}

// heldOf looks, for each handle, for ways without a Fork of it: it is not held where one of them leads.
func heldOf(f api.Func) []int {
	out := slices.Repeat([]int{255}, len(f.Code))
	for h := range 8 {
		if f.Needs>>h&1 == 1 || len(f.Code) == 0 {
			continue
		}
		bare := map[int]bool{0: true}
		for todo := []int{0}; len(todo) > 0; {
			at := todo[0]
			todo = todo[1:]
			out[at] &^= 1 << h
			if f.Code[at].Op == api.Fork && f.Code[at].A == h {
				continue
			}
			for _, to := range next(f.Code, at) {
				if !bare[to] {
					bare[to] = true
					todo = append(todo, to)
				}
			}
		}
	}
	return out
}

// fault is one of a program's faults, with what it is told by ahead of others.
type fault struct {
	tier, rank int
	check.Fault
}

// parts is the faults of a function, and of its instructions, wherever they stand.
func parts(k int, f api.Func) []fault {
	var out []fault
	if f.Needs < 0 || f.Needs > 255 {
		out = append(out, fault{1, 0, check.Fault{Func: k, At: -1, Code: api.ErrRange}})
	}
	if len(f.Code) == 0 || len(f.Code) > 128 {
		out = append(out, fault{1, 1, check.Fault{Func: k, At: -1, Code: api.ErrLong}})
	}
	for at, i := range f.Code {
		if e := code.Check(i); e != api.OK {
			out = append(out, fault{1, 2, check.Fault{Func: k, At: at, Code: e}})
		}
	}
	return out
}

// flows is the faults of a function's instructions where they stand. (The instructions may be, by parts.)
func flows(p api.Program, k int) []fault {
	var out []fault
	l := p.Funcs[k].Code
	depths, held := depthsOf(l), heldOf(p.Funcs[k])
	for at, i := range l {
		add := func(rank int, wrong bool, e api.Errno) {
			if wrong {
				out = append(out, fault{3, rank, check.Fault{Func: k, At: at, Code: e}})
			}
		}
		without := func(handles int) bool { return held[at]|handles != held[at] }
		switch i.Op {
		case api.Jump, api.If:
			add(0, i.N >= len(l), api.ErrRange)
			add(2, i.N < len(l) && depths[i.N] != depths[at], api.ErrScope)
		case api.Fork:
			add(0, i.N >= len(p.Funcs), api.ErrRange)
			add(3, i.N < len(p.Funcs) && without(p.Funcs[i.N].Needs), api.ErrHandle)
		case api.Join:
			add(3, without(1<<i.B), api.ErrHandle)
		case api.Try:
			add(3, without(1<<i.C), api.ErrHandle)
		case api.Close, api.Cancel:
			add(2, depths[at] <= 0, api.ErrScope)
		case api.Return:
			add(2, depths[at] != 0, api.ErrScope)
		}
		add(1, at == len(l)-1 && !slices.Contains([]int{api.Jump, api.Return, api.Panic}, i.Op), api.ErrForm)
	}
	return out
}

// faultOf gathers all of a program's faults, and puts them in order.
func faultOf(p api.Program) check.Fault {
	if len(p.Funcs) == 0 || len(p.Funcs) > 32 {
		return check.Fault{Func: -1, At: -1, Code: api.ErrLong}
	}
	var out []fault
	for k, f := range p.Funcs {
		out = append(out, parts(k, f)...)
	}
	if p.Funcs[0].Needs != 0 {
		out = append(out, fault{2, 0, check.Fault{At: -1, Code: api.ErrHandle}})
	}
	if len(out) == 0 { // else there may be instructions of which it can't be asked
		for k := range p.Funcs {
			out = append(out, flows(p, k)...)
		}
	}
	slices.SortFunc(out, func(x, y fault) int {
		return cmp.Or(cmp.Compare(x.tier, y.tier), cmp.Compare(x.Func, y.Func), cmp.Compare(x.At, y.At), cmp.Compare(x.rank, y.rank))
	})
	if len(out) == 0 {
		return check.Fault{}
	}
	return out[0].Fault
}

// wild is some instructions that need not be any: what a call that takes all has to take.
func wild(upTo func(int) int) []api.Instr {
	odd := []int{math.MinInt, math.MaxInt, -1, 8, 9, 63, 64, 65, 1 << 32, -8}
	l := make([]api.Instr, upTo(14))
	for at := range l {
		i := &l[at]
		i.Op = []int{api.Open, api.Close, api.Fork, api.Fork, api.Jump, api.If, api.If, api.Join, upTo(18), odd[upTo(len(odd))]}[upTo(10)]
		i.A, i.B, i.C, i.N = upTo(8), upTo(8), upTo(8), upTo(len(l)+1)
		switch upTo(12) {
		case 0:
			i.A = odd[upTo(len(odd))]
		case 1:
			i.N = odd[upTo(len(odd))]
		}
	}
	return l
}

func TestP41Depths(t *testing.T) {
	for _, c := range []struct {
		l    []api.Instr
		want []int
	}{
		{nil, nil},
		{[]api.Instr{}, nil},
		{[]api.Instr{op(api.Return)}, []int{0}},
		{[]api.Instr{open(0), op(api.Return)}, []int{0, 1}},
		{[]api.Instr{open(0), open(5), op(api.Close), op(api.Close), op(api.Return)}, []int{0, 1, 2, 1, 0}},
		{[]api.Instr{op(api.Close), op(api.Close), open(0), op(api.Check)}, []int{0, -1, -2, -1}},
		// Neither jumps nor ends matter.
		{[]api.Instr{jump(2), open(0), op(api.Return), op(api.Panic), op(api.Close), branch(0)}, []int{0, 0, 1, 1, 1, 0}},
		{[]api.Instr{open(0), op(api.Cancel), op(api.Cancel)}, []int{0, 1, 1}},
		// What is no instruction, or may not be: an Open is one, whatever its N.
		{[]api.Instr{op(-1), op(17), op(math.MaxInt), open(-1), open(math.MaxInt), {Op: api.Close, A: 99}, op(11 + 256)}, []int{0, 0, 0, 0, 1, 2, 1}},
	} {
		if got := check.Depths(c.l); !slices.Equal(got, c.want) {
			t.Errorf("Depths(%v): %v, not %v", c.l, got, c.want)
		}
	}
	upTo := numbers()
	for range 5000 {
		l := wild(upTo)
		if got, want := check.Depths(l), depthsOf(l); !slices.Equal(got, want) {
			t.Fatalf("Depths(%v): %v, not %v", l, got, want)
		}
	}
}

func TestP41Held(t *testing.T) {
	end := op(api.Return)
	for _, c := range []struct {
		needs int
		l     []api.Instr
		want  []int
	}{
		{0, nil, nil},
		{255, []api.Instr{}, nil},
		{0, []api.Instr{end}, []int{0}},
		{6, []api.Instr{op(api.Check), end}, []int{6, 6}},
		// It is held behind the Fork, not at it.
		{0, []api.Instr{fork(0, 0), fork(7, 0), fork(7, 0), end}, []int{0, 1, 129, 129}},
		{4, []api.Instr{fork(0, 9), end}, []int{4, 5}},
		// Of Needs the lowest eight count.
		{256, []api.Instr{end}, []int{0}},
		{1<<40 + 511, []api.Instr{end}, []int{255}},
		{-1, []api.Instr{end}, []int{255}},
		{-256, []api.Instr{end}, []int{0}},
		{math.MinInt, []api.Instr{end, end}, []int{0, 255}},
		// Two ways: what both have.
		{0, []api.Instr{branch(3), fork(1, 0), jump(4), fork(2, 0), end}, []int{0, 0, 2, 0, 0}},
		{0, []api.Instr{branch(4), fork(1, 0), fork(3, 0), jump(6), fork(2, 0), fork(3, 0), end}, []int{0, 0, 2, 10, 0, 4, 8}},
		// Round: the first way to an instruction tells as well as those that come back.
		{0, []api.Instr{op(api.Check), branch(4), fork(1, 0), jump(0), end}, []int{0, 0, 0, 2, 0}},
		{0, []api.Instr{fork(1, 0), branch(3), fork(2, 0), branch(1), end}, []int{0, 2, 2, 2, 2}},
		{0, []api.Instr{jump(0), end}, []int{0, 255}},
		// Where no way leads, all are held; and it takes nothing from where it goes on.
		{0, []api.Instr{end, op(api.Check), fork(1, 0), end}, []int{0, 255, 255, 255}},
		{0, []api.Instr{fork(2, 0), jump(3), jump(3), end}, []int{0, 4, 255, 4}},
		{0, []api.Instr{op(api.Panic), end}, []int{0, 255}},
		// What the function has not does not come; of an If, the next one does.
		{0, []api.Instr{jump(2), end}, []int{0, 255}},
		{0, []api.Instr{jump(-1), end}, []int{0, 255}},
		{0, []api.Instr{jump(math.MaxInt), jump(math.MinInt), end}, []int{0, 255, 255}},
		{0, []api.Instr{branch(2), end}, []int{0, 0}},
		{0, []api.Instr{branch(-1), fork(3, 0), op(api.Check)}, []int{0, 0, 8}},
		{0, []api.Instr{branch(1), end}, []int{0, 0}},
		// A jump to the next one, and to itself.
		{0, []api.Instr{fork(5, 0), jump(2), end}, []int{0, 32, 32}},
		{0, []api.Instr{fork(5, 0), branch(1), end}, []int{0, 32, 32}},
		// What is no instruction goes on; there are eight handles, and of the other numbers none.
		{0, []api.Instr{op(17), fork(1, 0), op(-5), end}, []int{0, 0, 2, 2}},
		{0, []api.Instr{fork(8, 0), fork(-1, 0), fork(64, 0), fork(math.MinInt, 0), fork(math.MaxInt, 0), end}, []int{0, 0, 0, 0, 0, 0}},
	} {
		if got := check.Held(api.Func{Needs: c.needs, Code: c.l}); !slices.Equal(got, c.want) {
			t.Errorf("Held(%d, %v): %v, not %v", c.needs, c.l, got, c.want)
		}
	}
}

func TestP41HeldOps(t *testing.T) {
	for n := range 20 {
		want := []int{0, 2, 2}
		switch n {
		case api.Return, api.Panic:
			want[2] = 255
		case api.Fork:
			want[2] = 3
		}
		l := []api.Instr{fork(1, 0), {Op: n, N: 2}, op(api.Return)}
		if got := check.Held(one(l...)); !slices.Equal(got, want) {
			t.Errorf("behind instruction %d: %v, not %v", n, got, want)
		}
	}
}

func TestP41HeldWild(t *testing.T) {
	upTo := numbers()
	some := 0
	for range 30000 {
		f := api.Func{Needs: []int{0, 0, 0, 1 << upTo(8), upTo(256), -upTo(1000), upTo(1000)}[upTo(7)], Code: wild(upTo)}
		got, want := check.Held(f), heldOf(f)
		if !slices.Equal(got, want) {
			t.Fatalf("Held(%v): %v, not %v", f, got, want)
		}
		if slices.ContainsFunc(got, func(x int) bool { return x != f.Needs&255 && x != 255 }) {
			some++
		}
	}
	if some < 5000 {
		t.Errorf("only %d functions with a Fork that tells", some)
	}
}

// TestP41Long holds functions that are far beyond what a program may have to an end.
func TestP41Long(t *testing.T) {
	const n = 300000
	l := make([]api.Instr, n)
	for at := range l {
		l[at] = []api.Instr{fork(at%8, 0), branch(at / 2), branch(n - 1 - at), open(0)}[at%4]
	}
	l[0] = branch(n / 2)
	if d := check.Depths(l); len(d) != n || d[n-1] != n/4-1 {
		t.Error(len(d))
	}
	h := check.Held(one(l...))
	if len(h) != n || h[0] != 0 || h[n/2] != 0 {
		t.Error(len(h))
	}
	for at := range l { // backwards, one by one: each is come to by the one that stands behind it
		l[at] = jump(at - 1)
	}
	l[0] = jump(n - 1)
	l[n/2] = branch(n/2 - 1)
	h = check.Held(one(l...))
	if h[1] != 0 || h[n/2+1] != 0 || h[n-1] != 0 {
		t.Error("not come to")
	}
}

func TestP42Whole(t *testing.T) {
	end := op(api.Return)
	for i, c := range []struct {
		funcs []api.Func
		want  check.Fault
	}{
		// So many functions.
		{nil, check.Fault{Func: -1, At: -1, Code: api.ErrLong}},
		{[]api.Func{}, check.Fault{Func: -1, At: -1, Code: api.ErrLong}},
		{slices.Repeat([]api.Func{needs(0)}, 33), check.Fault{Func: -1, At: -1, Code: api.ErrLong}},
		{slices.Repeat([]api.Func{needs(-1)}, 33), check.Fault{Func: -1, At: -1, Code: api.ErrLong}},
		{slices.Repeat([]api.Func{needs(0)}, 32), check.Fault{}},
		{slices.Repeat([]api.Func{{}}, 32), check.Fault{At: -1, Code: api.ErrLong}},
		// Needs.
		{[]api.Func{needs(-1)}, check.Fault{At: -1, Code: api.ErrRange}},
		{[]api.Func{needs(256)}, check.Fault{At: -1, Code: api.ErrRange}},
		{[]api.Func{needs(0), needs(255)}, check.Fault{}},
		{[]api.Func{needs(0), needs(256)}, check.Fault{Func: 1, At: -1, Code: api.ErrRange}},
		{[]api.Func{needs(0), needs(math.MinInt)}, check.Fault{Func: 1, At: -1, Code: api.ErrRange}},
		{[]api.Func{needs(0), needs(1 << 32)}, check.Fault{Func: 1, At: -1, Code: api.ErrRange}},
		{[]api.Func{{Needs: 256}}, check.Fault{At: -1, Code: api.ErrRange}}, // ahead of ErrLong
		{[]api.Func{{Needs: -1, Code: []api.Instr{op(17)}}}, check.Fault{At: -1, Code: api.ErrRange}},
		// So many instructions.
		{[]api.Func{{}}, check.Fault{At: -1, Code: api.ErrLong}},
		{[]api.Func{one(row(128)...)}, check.Fault{}},
		{[]api.Func{one(row(129)...)}, check.Fault{At: -1, Code: api.ErrLong}},
		{[]api.Func{one(slices.Repeat([]api.Instr{op(17)}, 129)...)}, check.Fault{At: -1, Code: api.ErrLong}},
		{[]api.Func{needs(0), {}}, check.Fault{Func: 1, At: -1, Code: api.ErrLong}},
		// Instructions that may not be.
		{[]api.Func{one(op(17))}, check.Fault{Code: api.ErrOp}},
		{[]api.Func{one(op(-1))}, check.Fault{Code: api.ErrOp}},
		{[]api.Func{one(end, op(17), end)}, check.Fault{At: 1, Code: api.ErrOp}},
		{[]api.Func{one(end, api.Instr{Op: api.Return, A: 8}, op(17))}, check.Fault{At: 1, Code: api.ErrRange}},
		{[]api.Func{one(end, op(17), api.Instr{Op: api.Return, A: 8})}, check.Fault{At: 1, Code: api.ErrOp}},
		{[]api.Func{one(jump(128))}, check.Fault{Code: api.ErrRange}},
		{[]api.Func{one(fork(0, 32), end)}, check.Fault{Code: api.ErrRange}},
		{[]api.Func{one(fork(8, 0), end)}, check.Fault{Code: api.ErrRange}},
		{[]api.Func{one(end, join(-1), end)}, check.Fault{At: 1, Code: api.ErrRange}},
		// Function by function.
		{[]api.Func{one(op(17)), needs(-1)}, check.Fault{Code: api.ErrOp}},
		{[]api.Func{needs(0), one(op(17)), {}, needs(-1)}, check.Fault{Func: 1, Code: api.ErrOp}},
		// These are ahead of what the first function needs, and that is ahead of what comes by where instructions stand.
		{[]api.Func{needs(1)}, check.Fault{At: -1, Code: api.ErrHandle}},
		{[]api.Func{needs(255)}, check.Fault{At: -1, Code: api.ErrHandle}},
		{[]api.Func{needs(1), needs(0), {}}, check.Fault{Func: 2, At: -1, Code: api.ErrLong}},
		{[]api.Func{needs(1), one(end, op(-1))}, check.Fault{Func: 1, At: 1, Code: api.ErrOp}},
		{[]api.Func{{Needs: 1, Code: []api.Instr{op(api.Close)}}}, check.Fault{At: -1, Code: api.ErrHandle}},
		{[]api.Func{one(op(api.Close)), one(op(17))}, check.Fault{Func: 1, Code: api.ErrOp}},
		{[]api.Func{one(jump(99)), needs(256)}, check.Fault{Func: 1, At: -1, Code: api.ErrRange}},
		{[]api.Func{one(op(api.Check)), one(jump(99))}, check.Fault{Code: api.ErrForm}},
		{[]api.Func{needs(0), needs(3), one(end, op(api.Close), join(1))}, check.Fault{Func: 2, At: 1, Code: api.ErrScope}},
	} {
		p := api.Program{Funcs: c.funcs}
		if got := check.Program(p); got != c.want {
			t.Errorf("%d: %v, not %v", i, got, c.want)
		}
	}
}

func TestP42Flow(t *testing.T) {
	end, shut, stop, look := op(api.Return), op(api.Close), op(api.Cancel), op(api.Check)
	for i, c := range []struct {
		l    []api.Instr
		at   int
		code api.Errno
	}{
		{[]api.Instr{end}, 0, api.OK},
		{[]api.Instr{op(api.Panic)}, 0, api.OK},
		{[]api.Instr{jump(0)}, 0, api.OK},
		// ErrRange: where it goes.
		{[]api.Instr{jump(1)}, 0, api.ErrRange},
		{[]api.Instr{jump(1), end}, 0, api.OK},
		{[]api.Instr{jump(2), end}, 0, api.ErrRange},
		{[]api.Instr{jump(127), end}, 0, api.ErrRange},
		{[]api.Instr{branch(2), end}, 0, api.ErrRange},
		{[]api.Instr{branch(1), end}, 0, api.OK},
		{[]api.Instr{end, branch(3), end}, 1, api.ErrRange}, // where no way leads, too
		{[]api.Instr{branch(1)}, 0, api.ErrRange},           // ahead of ErrForm
		{[]api.Instr{constant(99), end}, 0, api.OK},
		{[]api.Instr{fork(0, 0), end}, 0, api.OK},
		{[]api.Instr{fork(0, 1), end}, 0, api.ErrRange},
		{[]api.Instr{fork(0, 31), end}, 0, api.ErrRange},
		{[]api.Instr{fork(0, 1)}, 0, api.ErrRange},
		// ErrForm: the last one.
		{[]api.Instr{branch(0)}, 0, api.ErrForm},
		{[]api.Instr{end, look}, 1, api.ErrForm},
		{[]api.Instr{end, constant(0)}, 1, api.ErrForm},
		{[]api.Instr{end, fork(0, 0)}, 1, api.ErrForm},
		{[]api.Instr{open(0), stop}, 1, api.ErrForm},
		{[]api.Instr{open(0), shut}, 1, api.ErrForm},
		{[]api.Instr{shut}, 0, api.ErrForm}, // ahead of ErrScope
		{[]api.Instr{stop}, 0, api.ErrForm},
		{[]api.Instr{join(0)}, 0, api.ErrForm}, // ahead of ErrHandle
		{[]api.Instr{open(0), branch(0)}, 1, api.ErrForm},
		// ErrScope.
		{[]api.Instr{shut, end}, 0, api.ErrScope},
		{[]api.Instr{stop, end}, 0, api.ErrScope},
		{[]api.Instr{open(0), end}, 1, api.ErrScope},
		{[]api.Instr{open(9), stop, shut, end}, 0, api.OK},
		{[]api.Instr{open(0), shut, shut, end}, 2, api.ErrScope},
		{[]api.Instr{open(0), shut, stop, end}, 2, api.ErrScope},
		{[]api.Instr{open(0), open(0), shut, end}, 3, api.ErrScope},
		{[]api.Instr{open(0), open(0), stop, shut, stop, shut, end}, 0, api.OK},
		{[]api.Instr{open(0), op(api.Panic)}, 0, api.OK},
		{[]api.Instr{open(0), jump(1)}, 0, api.OK},
		{[]api.Instr{open(0), jump(0)}, 1, api.ErrScope},
		{[]api.Instr{branch(2), open(0), shut, end}, 0, api.ErrScope},
		{[]api.Instr{branch(3), open(0), shut, end}, 0, api.OK},
		{[]api.Instr{open(0), branch(3), look, shut, end}, 0, api.OK},
		{[]api.Instr{open(0), branch(4), look, shut, end}, 1, api.ErrScope},
		{[]api.Instr{open(0), jump(4), look, shut, end}, 1, api.ErrScope},
		{[]api.Instr{open(0), shut, open(0), branch(1), shut, end}, 0, api.OK},              // another scope, the same depth
		{[]api.Instr{open(0), op(api.Panic), end}, 2, api.ErrScope},                         // jumps, and ends, do not matter
		{[]api.Instr{open(0), op(api.Panic), shut, end}, 0, api.OK},                         // though no way leads to it
		{[]api.Instr{end, shut, op(api.Panic)}, 1, api.ErrScope},                            // below 1
		{[]api.Instr{end, jump(4), shut, end, open(0), end}, 1, api.ErrScope},               // to depth -1
		{[]api.Instr{end, open(0), jump(5), shut, jump(1), op(api.Panic)}, 2, api.ErrScope}, // at depths 1 and 0
		// ErrHandle.
		{[]api.Instr{join(0), end}, 0, api.ErrHandle},
		{[]api.Instr{try(0), end}, 0, api.ErrHandle},
		{[]api.Instr{fork(1, 0), join(1), try(1), end}, 0, api.OK},
		{[]api.Instr{fork(1, 0), join(2), end}, 1, api.ErrHandle},
		{[]api.Instr{fork(1, 0), try(2), end}, 1, api.ErrHandle},
		{[]api.Instr{fork(7, 0), {Op: api.Join, A: 3, B: 7}, {Op: api.Try, A: 3, B: 4, C: 7}, end}, 0, api.OK},
		{[]api.Instr{fork(3, 0), {Op: api.Join, A: 3, B: 4}, end}, 1, api.ErrHandle}, // registers are no handles
		{[]api.Instr{fork(3, 0), {Op: api.Try, A: 3, B: 3, C: 4}, end}, 1, api.ErrHandle},
		{[]api.Instr{join(1), fork(1, 0), end}, 0, api.ErrHandle},
		{[]api.Instr{branch(2), fork(1, 0), join(1), end}, 2, api.ErrHandle},
		{[]api.Instr{branch(3), fork(1, 0), jump(4), fork(1, 0), join(1), end}, 0, api.OK},
		{[]api.Instr{fork(1, 0), join(1), jump(1)}, 0, api.OK},
		{[]api.Instr{jump(2), join(1), fork(1, 0), jump(1)}, 0, api.OK},
		{[]api.Instr{end, join(1), end}, 0, api.OK},
		{[]api.Instr{join(0), shut, end}, 0, api.ErrHandle}, // the first instruction that is wrong
		{[]api.Instr{shut, join(0), end}, 0, api.ErrScope},
	} {
		want := check.Fault{At: c.at, Code: c.code}
		if got := check.Program(alone(c.l...)); got != want {
			t.Errorf("%d: %v: %v, not %v", i, c.l, got, want)
		}
		// The same, as another function than the first one.
		if c.code != api.OK && c.code != api.ErrRange {
			want.Func = 1
		}
		if c.code == api.ErrRange {
			continue // function 1 would be there
		}
		if got := check.Program(plan(needs(0), one(c.l...))); got != want {
			t.Errorf("%d: %v, as function 1: %v, not %v", i, c.l, got, want)
		}
	}
}

func TestP42Needs(t *testing.T) {
	end := op(api.Return)
	for i, c := range []struct {
		p    api.Program
		want check.Fault
	}{
		{plan(one(fork(0, 1), end), needs(0)), check.Fault{}},
		{plan(one(fork(0, 1), end), needs(1)), check.Fault{Code: api.ErrHandle}}, // it is not held at the Fork that gives it
		{plan(one(fork(0, 0), fork(1, 1), end), needs(1)), check.Fault{}},
		{plan(one(fork(0, 0), fork(1, 1), end), needs(2)), check.Fault{At: 1, Code: api.ErrHandle}},
		{plan(one(fork(0, 0), fork(1, 1), end), needs(3)), check.Fault{At: 1, Code: api.ErrHandle}}, // one of them is not
		{plan(one(fork(0, 0), fork(1, 0), fork(1, 1), end), needs(3)), check.Fault{}},
		{plan(one(fork(7, 0), fork(1, 1), end), needs(128)), check.Fault{}},
		{plan(one(fork(7, 0), fork(1, 1), end), needs(255)), check.Fault{At: 1, Code: api.ErrHandle}},
		{plan(one(fork(0, 2), end), needs(0)), check.Fault{Code: api.ErrRange}},
		{plan(one(fork(0, 0), branch(3), fork(1, 0), fork(2, 1), end), needs(3)), check.Fault{At: 3, Code: api.ErrHandle}},
		// What a function needs is held in it from its first instruction on.
		{plan(needs(0), api.Func{Needs: 10, Code: []api.Instr{join(1), try(3), fork(0, 1), fork(1, 2), end}}, needs(11)), check.Fault{}},
		{plan(needs(0), api.Func{Needs: 10, Code: []api.Instr{join(2), end}}), check.Fault{Func: 1, Code: api.ErrHandle}},
		{plan(needs(0), api.Func{Needs: 10, Code: []api.Instr{fork(4, 2), end}}, needs(4)), check.Fault{Func: 1, Code: api.ErrHandle}},
		{plan(needs(0), api.Func{Needs: 255, Code: []api.Instr{fork(4, 1), end}}), check.Fault{}},
		// Nobody forks it: its faults count all the same.
		{plan(needs(0), needs(0), one(op(api.Panic), branch(0))), check.Fault{Func: 2, At: 1, Code: api.ErrForm}},
		// A Fork as the last one, at which a handle is missing, too.
		{plan(one(fork(0, 1)), needs(1)), check.Fault{Code: api.ErrForm}},
		{plan(needs(0), one(end, fork(0, 31), end)), check.Fault{Func: 1, At: 1, Code: api.ErrRange}},
	} {
		if got := check.Program(c.p); got != c.want {
			t.Errorf("%d: %v, not %v", i, got, c.want)
		}
	}
}

// drafted is a function's instructions: all but where they go, whom they fork, and what they join, is as it may be.
func drafted(upTo func(int) int) []api.Instr {
	var l []api.Instr
	depth := 0
	for range upTo(10) {
		i := op(upTo(api.Ops))
		switch {
		case i.Op == api.Const && upTo(2) == 0:
			i.N = upTo(1000) - 500
		case i.Op == api.Fork, upTo(6) == 0:
			i = fork(upTo(4), 0)
		case i.Op == api.Open:
			depth++
		case i.Op == api.Close && depth > 0:
			depth--
		case i.Op == api.Cancel && depth > 0, i.Op == api.Return && depth == 0:
		case i.Op == api.Close, i.Op == api.Cancel, i.Op == api.Return:
			i = op(api.Check)
		}
		l = append(l, i)
	}
	if depth == 0 || upTo(2) == 0 {
		l = append(l, slices.Repeat([]api.Instr{op(api.Close)}, depth)...)
		return append(l, op(api.Return))
	}
	return append(l, op([]int{api.Jump, api.Panic}[upTo(2)]))
}

// mend lets a function's instructions go, fork and join as they may. (Function 0 needs nothing: it may always be forked.)
func mend(p api.Program, f *api.Func, upTo func(int) int) {
	l := f.Code
	depths := depthsOf(l)
	for at := range l {
		if l[at].Op == api.Jump || l[at].Op == api.If {
			l[at].N = upTo(len(l))
			for depths[l[at].N] != depths[at] {
				l[at].N = upTo(len(l))
			}
		}
	}
	held := heldOf(*f)
	for at := range l {
		i := &l[at]
		h := upTo(8)
		for n := 0; n < 40 && held[at]>>h&1 == 0; n++ {
			h = upTo(8)
		}
		switch {
		case i.Op == api.Fork:
			if n := upTo(len(p.Funcs)); p.Funcs[n].Needs&^held[at] == 0 {
				i.N = n
			}
		case held[at]>>h&1 == 0 && (i.Op == api.Join || i.Op == api.Try):
			*i = op(api.Check)
		case i.Op == api.Join:
			i.B = h
		case i.Op == api.Try:
			i.C = h
		}
	}
}

// program is one that is accepted.
func program(upTo func(int) int) api.Program {
	p := api.Program{}
	for k := range 1 + upTo(4) {
		f := api.Func{Code: drafted(upTo)}
		if k > 0 {
			f.Needs = []int{0, 1 << upTo(8), 1<<upTo(4) | 1<<upTo(4), upTo(256)}[upTo(4)]
		}
		p.Funcs = append(p.Funcs, f)
	}
	for k := range p.Funcs {
		mend(p, &p.Funcs[k], upTo)
	}
	return p
}

// turn lets something of a program be another thing.
func turn(p api.Program, upTo func(int) int) {
	f := &p.Funcs[upTo(len(p.Funcs))]
	if len(f.Code) == 0 {
		return
	}
	at := upTo(len(f.Code))
	i := &f.Code[at]
	switch upTo(12) {
	case 0:
		f.Needs = []int{0, -1, 256, 1 << upTo(8), upTo(256)}[upTo(5)]
	case 1:
		i.Op = upTo(api.Ops+1) - upTo(2)
	case 2:
		*i = api.Instr{Op: upTo(api.Ops), A: upTo(9), B: upTo(9), C: upTo(9), N: upTo(40)}
	case 3:
		i.A = upTo(9)
	case 4:
		i.N = upTo(len(f.Code) + 1)
	case 5:
		f.Code = slices.Delete(f.Code, at, at+1)
	case 6:
		other := upTo(len(f.Code))
		f.Code[at], f.Code[other] = f.Code[other], f.Code[at]
	case 7:
		*i = join(upTo(8))
	case 8:
		*i = try(upTo(8))
	case 9:
		*i = op([]int{api.Open, api.Close, api.Cancel, api.Return, api.Panic}[upTo(5)])
	case 10:
		*i = fork(upTo(8), upTo(5))
	case 11:
		*i = []api.Instr{jump(upTo(12)), branch(upTo(12))}[upTo(2)]
	}
}

// some tells programs that are accepted, and such as those, but that something is another thing.
func some(n int, tell func(api.Program)) {
	upTo := numbers()
	for range n {
		p := program(upTo)
		for range upTo(4) {
			turn(p, upTo)
		}
		tell(p)
	}
}

// TestP42Turned holds programs against the test's own reading of the chapter.
func TestP42Turned(t *testing.T) {
	seen := map[api.Errno]int{}
	some(60000, func(p api.Program) {
		got, want := check.Program(p), faultOf(p)
		if got != want {
			t.Fatalf("Program(%v): %v, not %v", p, got, want)
		}
		if check.Accepts(p) != (want.Code == api.OK) {
			t.Fatalf("Accepts(%v): %v", p, check.Accepts(p))
		}
		seen[got.Code]++
	})
	for _, e := range []api.Errno{api.OK, api.ErrRange, api.ErrLong, api.ErrForm, api.ErrScope, api.ErrHandle, api.ErrOp} {
		if seen[e] < 200 {
			t.Errorf("%v was answered %d times", e, seen[e])
		}
	}
}

// TestP42Wild lets instructions that may be anything stand in a program.
func TestP42Wild(t *testing.T) {
	upTo := numbers()
	for range 20000 {
		p := api.Program{}
		for range upTo(4) {
			p.Funcs = append(p.Funcs, api.Func{Needs: []int{0, 0, upTo(256), math.MinInt}[upTo(4)], Code: wild(upTo)})
		}
		if got, want := check.Program(p), faultOf(p); got != want {
			t.Fatalf("Program(%v): %v, not %v", p, got, want)
		}
	}
}

func TestP43Accepts(t *testing.T) {
	for i, c := range []struct {
		p    api.Program
		want bool
	}{
		{api.Program{}, false},
		{plan(make([]api.Func, 33)...), false},
		{alone(op(api.Return)), true},
		{plan(needs(0), needs(255)), true},
		{plan(needs(1)), false},
		{plan(needs(0), needs(256)), false},
		{plan(needs(0), api.Func{}), false},
		{alone(op(17)), false},
		{alone(op(api.Check)), false},
		{alone(jump(1)), false},
		{alone(open(0), op(api.Return)), false},
		{alone(join(0), op(api.Return)), false},
		{alone(fork(1, 0), api.Instr{Op: api.Join, B: 1}, op(api.Return)), true}, // the chapter's own examples
		{alone(api.Instr{Op: api.Join, B: 1}, op(api.Return)), false},
	} {
		if got := check.Accepts(c.p); got != c.want {
			t.Errorf("%d: %v, not %v", i, got, c.want)
		}
	}
}

func TestP43Plain(t *testing.T) {
	end := op(api.Return)
	for i, c := range []struct {
		p    api.Program
		want bool
	}{
		{api.Program{}, true},
		{plan(make([]api.Func, 40)...), true},
		{alone(end), true},
		{alone(open(0), op(api.Close), end), true},
		{alone(open(1), op(api.Close), end), false},
		{alone(open(65535)), false},
		{alone(open(-1)), false},
		{alone(open(math.MinInt)), false},
		{alone(api.Instr{Op: api.Open, A: 7, B: 7, C: 7}), true},
		{alone(op(api.Cancel)), false},
		{alone(api.Instr{Op: api.Cancel, A: 99, N: -1}), false},
		{alone(end, op(api.Cancel)), false}, // wherever it stands
		{alone(end, end, open(1), end), false},
		{plan(needs(0), needs(1), one(op(17), open(3))), false},
		{plan(api.Func{}, one(op(api.Cancel))), false},
		{alone(constant(5), jump(5), branch(5), fork(5, 5), join(5), try(5), op(api.Panic), op(api.Check)), true},
	} {
		if got := check.Plain(c.p); got != c.want {
			t.Errorf("%d: %v, not %v", i, got, c.want)
		}
	}
	for n := -3; n < 300; n++ {
		for _, to := range []int{0, 1} {
			want := n != api.Cancel && (n != api.Open || to == 0)
			p := alone(end, api.Instr{Op: n, N: to})
			if check.Plain(p) != want {
				t.Errorf("Plain(%v): %v", p, !want)
			}
		}
	}
}

// stand is where somebody is who goes through a function: at an instruction, with so many scopes open, and these handles.
type stand struct{ at, depth, held int }

// wrong is what goes wrong for who stands somewhere.
func wrong(p api.Program, l []api.Instr, s stand) string {
	i := l[s.at]
	takes := 0
	switch i.Op {
	case api.Join:
		takes = 1 << i.B
	case api.Try:
		takes = 1 << i.C
	case api.Fork:
		if i.N >= len(p.Funcs) {
			return "no such function"
		}
		takes = p.Funcs[i.N].Needs
	case api.Close, api.Cancel:
		if s.depth < 1 {
			return "no scope is open"
		}
	case api.Return:
		if s.depth != 0 {
			return "a scope is open"
		}
	}
	switch {
	case takes&^s.held != 0:
		return "a handle is not there"
	case i.Op != api.Return && i.Op != api.Panic && len(next(l, s.at)) == 0:
		return "nothing is behind it"
	case i.Op == api.If && len(next(l, s.at)) != 2:
		return "only one of two is behind it"
	}
	return ""
}

// walk goes all ways through a function, and tells where something is wrong.
func walk(p api.Program, f api.Func) (stand, string) {
	first := stand{0, 0, f.Needs}
	seen := map[stand]bool{first: true}
	for todo := []stand{first}; len(todo) > 0; {
		s := todo[0]
		todo = todo[1:]
		if w := wrong(p, f.Code, s); w != "" {
			return s, w
		}
		to := s
		switch i := f.Code[s.at]; i.Op {
		case api.Open:
			to.depth++
		case api.Close:
			to.depth--
		case api.Fork:
			to.held |= 1 << i.A
		}
		if to.depth > len(f.Code) {
			return s, "more and more scopes"
		}
		for _, to.at = range next(f.Code, s.at) {
			if !seen[to] {
				seen[to] = true
				todo = append(todo, to)
			}
		}
	}
	return stand{}, ""
}

func TestP44Ways(t *testing.T) {
	right := 0
	some(20000, func(p api.Program) {
		if !check.Accepts(p) {
			return
		}
		right++
		for k, f := range p.Funcs {
			if s, w := walk(p, f); w != "" {
				t.Fatalf("%v is accepted, but in function %d, %v: %s", p, k, s, w)
			}
		}
	})
	if right < 2000 {
		t.Errorf("only %d programs were accepted", right)
	}
}

// later is a program in which a function begins with a Check more, and jumps go one further.
func later(p api.Program, k int) api.Program {
	q := api.Program{Funcs: slices.Clone(p.Funcs)}
	l := append([]api.Instr{op(api.Check)}, p.Funcs[k].Code...)
	for at := range l {
		if l[at].Op == api.Jump || l[at].Op == api.If {
			l[at].N++
		}
	}
	q.Funcs[k].Code = l
	return q
}

func TestP44Later(t *testing.T) {
	yes, no := 0, 0
	some(20000, func(p api.Program) {
		was := check.Accepts(p)
		if was {
			yes++
		} else {
			no++
		}
		for k := range p.Funcs {
			if q := later(p, k); len(p.Funcs[k].Code) > 0 && check.Accepts(q) != was {
				t.Fatalf("accepted, %v: %v; function %d begins with a Check: %v", was, p, k, check.Program(q))
			}
		}
	})
	if yes < 2000 || no < 2000 {
		t.Errorf("%d programs were accepted, %d not", yes, no)
	}
}

// TestMemory holds what is handed in, and what lies behind its length, against what it was (R2).
func TestMemory(t *testing.T) {
	l := []api.Instr{fork(1, 0), branch(3), join(1), op(api.Return)}
	p := api.Program{Funcs: make([]api.Func, 2, 4)}
	for k := range p.Funcs {
		p.Funcs[k] = one(append(make([]api.Instr, 0, 8), l...)...)
	}
	if !check.Accepts(p) || check.Program(p) != (check.Fault{}) || !check.Plain(p) {
		t.Error(check.Program(p))
	}
	f := p.Funcs[0]
	depths, held := check.Depths(f.Code), check.Held(f)
	if !reflect.DeepEqual(p, plan(one(l...), one(l...))) || f.Code[:5][4] != (api.Instr{}) || p.Funcs[:3][2].Code != nil {
		t.Error("the program is written into")
	}
	// What is answered is the caller's: nothing else sees what is done to it.
	depths[0], held[0] = 9, 9
	if d, h := check.Depths(f.Code), check.Held(f); d[0] != 0 || h[0] != 0 {
		t.Error("two answers share their numbers", d, h)
	}
}
