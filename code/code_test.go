package code_test

import (
	"bytes"
	"math"
	"reflect"
	"slices"
	"testing"

	"peloton/api"
	"peloton/code"
)

// field is what the document's table says of a field: the least and the greatest number that it may be.
type field struct{ low, high int }

// fieldsOf writes the document's table out once more, by instruction, so that the program's own one is held against it.
func fieldsOf(op int) [4]field {
	var (
		zero  = field{0, 0}
		eight = field{0, 7}
	)
	switch op {
	case 0:
		return [4]field{eight, zero, zero, {-2147483648, 2147483647}}
	case 1:
		return [4]field{eight, eight, zero, zero}
	case 2, 3, 4, 5:
		return [4]field{eight, eight, eight, zero}
	case 6:
		return [4]field{zero, zero, zero, {0, 127}}
	case 7:
		return [4]field{eight, zero, zero, {0, 127}}
	case 8:
		return [4]field{eight, zero, zero, {0, 31}}
	case 9:
		return [4]field{eight, eight, zero, zero}
	case 10:
		return [4]field{eight, eight, eight, zero}
	case 11:
		return [4]field{zero, zero, zero, {0, 65535}}
	case 12, 15, 16:
		return [4]field{eight, zero, zero, zero}
	}
	return [4]field{} // Cancel and Check: none
}

func instr(op int, f [4]int) api.Instr {
	return api.Instr{Op: op, A: f[0], B: f[1], C: f[2], N: f[3]}
}

// edges is numbers around which an operand's range may end.
func edges() []int {
	out := []int{math.MinInt, math.MaxInt, math.MinInt + 1, math.MaxInt - 7}
	for _, x := range []int{0, 7, 8, 31, 32, 127, 128, 255, 256, 65535, 65536, 1 << 24, -2147483648, 2147483647, 4294967295, 4294967296, -4294967296} {
		out = append(out, x-1, x, x+1)
	}
	return out
}

// every tells an instruction of each Op, with its fields at the ends of their ranges and between, all of which may be.
func every(tell func(api.Instr)) {
	for op := range api.Ops {
		var choices [4][]int
		for k, f := range fieldsOf(op) {
			choices[k] = []int{f.low}
			if f.high != f.low {
				choices[k] = []int{f.low, f.low + 1, (f.low + f.high) / 2, f.high - 1, f.high}
			}
		}
		for _, a := range choices[0] {
			for _, b := range choices[1] {
				for _, c := range choices[2] {
					for _, n := range choices[3] {
						tell(api.Instr{Op: op, A: a, B: b, C: c, N: n})
					}
				}
			}
		}
	}
}

func TestP21CheckOp(t *testing.T) {
	for _, op := range edges() {
		if op >= 0 && op <= 16 {
			continue
		}
		for _, i := range []api.Instr{{Op: op}, {Op: op, A: 99, B: -1, C: 8, N: math.MaxInt}} { // ErrOp is ahead of ErrRange
			if e := code.Check(i); e != api.ErrOp {
				t.Errorf("Check(%v): %v", i, e)
			}
		}
	}
	if e := code.Check(api.Instr{Op: 17}); e != api.ErrOp {
		t.Error(e)
	}
	for op := range 17 {
		if e := code.Check(api.Instr{Op: op}); e != api.OK {
			t.Errorf("Check of %d, all else 0: %v", op, e)
		}
	}
}

func TestP21CheckRange(t *testing.T) {
	for op := range 17 {
		fields := fieldsOf(op)
		for k, f := range fields {
			for _, x := range append(edges(), f.low-1, f.low, f.high, f.high+1) {
				want := api.OK
				if x < f.low || x > f.high {
					want = api.ErrRange
				}
				var lows, highs [4]int // the other fields are right, at one end and at the other one
				for j := range fields {
					lows[j], highs[j] = fields[j].low, fields[j].high
				}
				lows[k], highs[k] = x, x
				for _, i := range []api.Instr{instr(op, lows), instr(op, highs)} {
					if e := code.Check(i); e != want {
						t.Errorf("Check(%v): %v, not %v", i, e, want)
					}
				}
			}
		}
	}
}

func TestP21CheckAll(t *testing.T) {
	n := 0
	every(func(i api.Instr) {
		n++
		if e := code.Check(i); e != api.OK {
			t.Errorf("Check(%v): %v", i, e)
		}
	})
	if n < 5*5*5*5 {
		t.Errorf("only %d instructions", n)
	}
}

func TestP21Point(t *testing.T) {
	points := map[int]bool{6: true, 7: true, 8: true, 9: true, 10: true, 11: true, 12: true, 14: true}
	for op := range 300 {
		if code.Point(op) != points[op] {
			t.Errorf("Point(%d) is %v", op, code.Point(op))
		}
	}
	for _, op := range []int{-1, -6, math.MinInt, math.MaxInt, 256 + 6, 1<<32 + 6} {
		if code.Point(op) {
			t.Errorf("Point(%d)", op)
		}
	}
}

func TestP22Encode(t *testing.T) {
	for _, c := range []struct {
		i api.Instr
		b []byte
	}{
		{api.Instr{Op: api.Const, A: 2, N: -1}, []byte{0, 2, 0, 0, 255, 255, 255, 255}},
		{api.Instr{Op: api.Const, A: 7, N: -2147483648}, []byte{0, 7, 0, 0, 128, 0, 0, 0}},
		{api.Instr{Op: api.Const, N: 2147483647}, []byte{0, 0, 0, 0, 127, 255, 255, 255}},
		{api.Instr{Op: api.Const, N: 0x01020304}, []byte{0, 0, 0, 0, 1, 2, 3, 4}},
		{api.Instr{Op: api.Const, N: -2}, []byte{0, 0, 0, 0, 255, 255, 255, 254}},
		{api.Instr{Op: api.Move, A: 1, B: 2}, []byte{1, 1, 2, 0, 0, 0, 0, 0}},
		{api.Instr{Op: api.Less, A: 1, B: 2, C: 3}, []byte{5, 1, 2, 3, 0, 0, 0, 0}},
		{api.Instr{Op: api.Jump, N: 127}, []byte{6, 0, 0, 0, 0, 0, 0, 127}},
		{api.Instr{Op: api.Fork, A: 7, N: 31}, []byte{8, 7, 0, 0, 0, 0, 0, 31}},
		{api.Instr{Op: api.Try, A: 4, B: 5, C: 6}, []byte{10, 4, 5, 6, 0, 0, 0, 0}},
		{api.Instr{Op: api.Open, N: 65535}, []byte{11, 0, 0, 0, 0, 0, 255, 255}},
		{api.Instr{Op: api.Open, N: 258}, []byte{11, 0, 0, 0, 0, 0, 1, 2}},
		{api.Instr{Op: api.Cancel}, []byte{13, 0, 0, 0, 0, 0, 0, 0}},
		{api.Instr{Op: api.Return, A: 7}, []byte{16, 7, 0, 0, 0, 0, 0, 0}},
	} {
		if b, e := code.Encode(c.i); e != api.OK || !bytes.Equal(b, c.b) {
			t.Errorf("Encode(%v): %v, %v", c.i, b, e)
		}
		if i, e := code.Decode(c.b); e != api.OK || i != c.i {
			t.Errorf("Decode(%v): %v, %v", c.b, i, e)
		}
	}
}

func TestP22EncodeErrors(t *testing.T) {
	for _, i := range []api.Instr{
		{Op: -1}, {Op: 17}, {Op: 256}, {Op: math.MinInt, A: 9}, {Op: math.MaxInt},
		{Op: api.Return, A: 8}, {Op: api.Return, A: 256}, {Op: api.Return, A: -1}, {Op: api.Return, B: 1}, {Op: api.Return, N: 1 << 32},
		{Op: api.Const, N: 1 << 31}, {Op: api.Const, N: -1<<31 - 1}, {Op: api.Jump, N: -1}, {Op: api.Jump, N: 1<<32 + 1}, {Op: api.Check, C: 1},
	} {
		b, e := code.Encode(i)
		if want := code.Check(i); len(b) != 0 || e != want || e == api.OK {
			t.Errorf("Encode(%v): %v, %v, not %v", i, b, e, want)
		}
	}
}

func TestP22DecodeErrors(t *testing.T) {
	for n := range 30 {
		if n == 8 {
			continue
		}
		for _, x := range []byte{0, 16, 255} {
			if i, e := code.Decode(bytes.Repeat([]byte{x}, n)); i != (api.Instr{}) || e != api.ErrForm {
				t.Errorf("Decode of %d bytes: %v, %v", n, i, e)
			}
		}
	}
	for _, c := range []struct {
		b []byte
		e api.Errno
	}{
		{[]byte{17, 0, 0, 0, 0, 0, 0, 0}, api.ErrOp},
		{[]byte{255, 255, 255, 255, 255, 255, 255, 255}, api.ErrOp},
		{[]byte{128, 8, 0, 0, 0, 0, 0, 0}, api.ErrOp},
		{[]byte{0, 8, 0, 0, 0, 0, 0, 0}, api.ErrRange},
		{[]byte{0, 0, 1, 0, 0, 0, 0, 0}, api.ErrRange},
		{[]byte{0, 0, 0, 1, 0, 0, 0, 0}, api.ErrRange},
		{[]byte{5, 0, 0, 255, 0, 0, 0, 0}, api.ErrRange},
		{[]byte{6, 0, 0, 0, 0, 0, 0, 128}, api.ErrRange},
		{[]byte{6, 0, 0, 0, 1, 0, 0, 0}, api.ErrRange},
		{[]byte{6, 0, 0, 0, 128, 0, 0, 0}, api.ErrRange},
		{[]byte{8, 0, 0, 0, 0, 0, 0, 32}, api.ErrRange},
		{[]byte{11, 0, 0, 0, 255, 255, 255, 255}, api.ErrRange},
		{[]byte{11, 0, 0, 0, 0, 1, 0, 0}, api.ErrRange},
		{[]byte{14, 0, 0, 0, 0, 0, 0, 1}, api.ErrRange},
		{[]byte{16, 0, 0, 0, 128, 0, 0, 0}, api.ErrRange},
	} {
		if i, e := code.Decode(c.b); i != (api.Instr{}) || e != c.e {
			t.Errorf("Decode(%v): %v, %v, not %v", c.b, i, e, c.e)
		}
	}
}

// told is what Decode has to say of eight bytes, by the test's own table.
func told(b []byte) (api.Instr, api.Errno) {
	if b[0] > 16 {
		return api.Instr{}, api.ErrOp
	}
	n := ((int(b[4])*256+int(b[5]))*256+int(b[6]))*256 + int(b[7])
	if n > 2147483647 {
		n -= 4294967296
	}
	got := [4]int{int(b[1]), int(b[2]), int(b[3]), n}
	for k, f := range fieldsOf(int(b[0])) {
		if got[k] < f.low || got[k] > f.high {
			return api.Instr{}, api.ErrRange
		}
	}
	return instr(int(b[0]), got), api.OK
}

func TestP22DecodeBytes(t *testing.T) {
	upTo := numbers()
	right := 0
	for range 200000 {
		b := make([]byte, 8)
		b[0] = byte(upTo(19))
		for k := 1; k < 8; k++ {
			switch upTo(4) {
			case 0:
				b[k] = byte(upTo(9))
			case 1:
				b[k] = byte(upTo(256))
			}
		}
		i, e := code.Decode(b)
		if want, f := told(b); i != want || e != f {
			t.Fatalf("Decode(%v): %v, %v, not %v, %v", b, i, e, want, f)
		}
		if e != api.OK {
			continue
		}
		right++
		if c, e := code.Encode(i); e != api.OK || !bytes.Equal(b, c) {
			t.Fatalf("Decode(%v): %v, then %v, %v", b, i, c, e)
		}
	}
	if right < 1000 {
		t.Errorf("only %d were right", right)
	}
}

// numbers answers a row of numbers that is the same each time.
func numbers() func(n int) int {
	seed := uint32(7)
	return func(n int) int {
		seed = seed*1664525 + 1013904223
		return int(seed>>8) % n
	}
}

func returns(n int) []api.Instr {
	return slices.Repeat([]api.Instr{{Op: api.Return}}, n)
}

// full is a program of n functions, each with as many instructions.
func full(n, instrs int) api.Program {
	p := api.Program{}
	for range n {
		p.Funcs = append(p.Funcs, api.Func{Code: returns(instrs)})
	}
	return p
}

func TestP23Bytes(t *testing.T) {
	for i, c := range []struct {
		p api.Program
		b []byte
	}{
		{full(1, 1), []byte{1, 0, 1, 16, 0, 0, 0, 0, 0, 0, 0}},
		{
			api.Program{Funcs: []api.Func{
				{Needs: 255, Code: []api.Instr{{Op: api.Const, A: 1, N: -3}, {Op: api.Return, A: 1}}},
				{Needs: 128, Code: []api.Instr{{Op: api.Panic, A: 6}}},
			}},
			[]byte{2, 255, 2, 0, 1, 0, 0, 255, 255, 255, 253, 16, 1, 0, 0, 0, 0, 0, 0, 128, 1, 15, 6, 0, 0, 0, 0, 0, 0},
		},
	} {
		if b, e := code.Pack(c.p); e != api.OK || !bytes.Equal(b, c.b) {
			t.Errorf("%d: Pack: %v, %v", i, b, e)
		}
		if p, at, e := code.Unpack(c.b); e != api.OK || at != 0 || !reflect.DeepEqual(p, c.p) {
			t.Errorf("%d: Unpack: %v, %d, %v", i, p, at, e)
		}
	}
}

func TestP23MostAndLeast(t *testing.T) {
	for _, c := range [][2]int{{1, 1}, {1, 128}, {32, 1}, {32, 128}} {
		p := full(c[0], c[1])
		b, e := code.Pack(p)
		if e != api.OK || len(b) != 1+c[0]*(2+8*c[1]) {
			t.Errorf("Pack of %d functions of %d: %d bytes, %v", c[0], c[1], len(b), e)
		}
		if q, at, e := code.Unpack(b); e != api.OK || at != 0 || !reflect.DeepEqual(p, q) {
			t.Errorf("Unpack of %d functions of %d: %d, %v", c[0], c[1], at, e)
		}
	}
}

func TestP23Errors(t *testing.T) {
	right := api.Func{Code: returns(1)}
	badOp, badRange := api.Instr{Op: 17}, api.Instr{Op: api.Return, A: 8}
	for i, c := range []struct {
		funcs []api.Func
		e     api.Errno
	}{
		{nil, api.ErrLong},
		{[]api.Func{}, api.ErrLong},
		{full(33, 1).Funcs, api.ErrLong},
		{full(256, 1).Funcs, api.ErrLong},
		{full(257, 1).Funcs, api.ErrLong},
		{slices.Repeat([]api.Func{{Needs: -1}}, 33), api.ErrLong}, // ahead of what is wrong with each
		{[]api.Func{{Needs: -1, Code: returns(1)}}, api.ErrRange},
		{[]api.Func{{Needs: 256, Code: returns(1)}}, api.ErrRange},
		{[]api.Func{{Needs: math.MinInt, Code: returns(1)}}, api.ErrRange},
		{[]api.Func{{Needs: math.MaxInt, Code: returns(1)}}, api.ErrRange},
		{[]api.Func{{}}, api.ErrLong},
		{[]api.Func{{Code: returns(129)}}, api.ErrLong},
		{[]api.Func{{Code: returns(257)}}, api.ErrLong},
		{[]api.Func{{Code: []api.Instr{badOp}}}, api.ErrOp},
		{[]api.Func{{Code: []api.Instr{badRange}}}, api.ErrRange},
		// Of one function: Needs, how many, and then one by one.
		{[]api.Func{{Needs: 256}}, api.ErrRange},
		{[]api.Func{{Needs: 256, Code: []api.Instr{badOp}}}, api.ErrRange},
		{[]api.Func{{Code: slices.Repeat([]api.Instr{badOp}, 129)}}, api.ErrLong},
		{[]api.Func{{Code: []api.Instr{{}, badOp, badRange}}}, api.ErrOp},
		{[]api.Func{{Code: []api.Instr{{}, badRange, badOp}}}, api.ErrRange},
		{[]api.Func{{Code: append(returns(127), badOp)}}, api.ErrOp},
		// Of several functions: the first one that is wrong.
		{[]api.Func{right, {Needs: 256, Code: returns(1)}}, api.ErrRange},
		{[]api.Func{right, {}}, api.ErrLong},
		{[]api.Func{{Code: []api.Instr{badOp}}, {Needs: -1}}, api.ErrOp},
		{[]api.Func{{Code: []api.Instr{badOp}}, {}}, api.ErrOp},
		{[]api.Func{{}, {Needs: -1}}, api.ErrLong},
		{[]api.Func{{Needs: -1}, {}}, api.ErrRange},
		{[]api.Func{right, {}, {Code: []api.Instr{badOp}}}, api.ErrLong},
		{append(full(31, 1).Funcs, api.Func{Code: []api.Instr{badOp}}), api.ErrOp},
	} {
		if b, e := code.Pack(api.Program{Funcs: c.funcs}); len(b) != 0 || e != c.e {
			t.Errorf("%d: Pack: %v, %v, not %v", i, b, e, c.e)
		}
	}
}

func join(parts ...[]byte) []byte { return bytes.Join(parts, nil) }

func TestP24Errors(t *testing.T) {
	ret := []byte{16, 0, 0, 0, 0, 0, 0, 0}
	wrongOp, wrongRange := []byte{17, 0, 0, 0, 0, 0, 0, 0}, []byte{16, 8, 0, 0, 0, 0, 0, 0}
	one := join([]byte{0, 1}, ret)
	for i, c := range []struct {
		b  []byte
		at int
		e  api.Errno
	}{
		{nil, 0, api.ErrForm},
		{[]byte{}, 0, api.ErrForm},
		{[]byte{0}, 0, api.ErrLong},
		{[]byte{33}, 0, api.ErrLong},
		{[]byte{255}, 0, api.ErrLong},
		{join([]byte{0}, one), 0, api.ErrLong},
		{join([]byte{33}, one), 0, api.ErrLong},
		{[]byte{1}, 1, api.ErrForm},
		{[]byte{32}, 1, api.ErrForm},
		{[]byte{1, 255}, 1, api.ErrForm},
		{[]byte{1, 0, 0}, 2, api.ErrLong},
		{[]byte{1, 0, 129}, 2, api.ErrLong},
		{[]byte{1, 255, 255}, 2, api.ErrLong},
		{[]byte{1, 0, 1}, 3, api.ErrForm},
		{[]byte{1, 0, 128}, 3, api.ErrForm},
		{join([]byte{1, 0, 1}, ret[:7]), 3, api.ErrForm},
		{join([]byte{1, 0, 1}, wrongOp[:7]), 3, api.ErrForm},
		{join([]byte{1, 0, 1}, wrongOp), 3, api.ErrOp},
		{join([]byte{1, 0, 1}, wrongRange), 3, api.ErrRange},
		{join([]byte{1, 0, 1}, wrongRange, []byte{9}), 3, api.ErrRange},
		{join([]byte{1, 0, 2}, ret), 11, api.ErrForm},
		{join([]byte{1, 0, 2}, ret, ret[:1]), 11, api.ErrForm},
		{join([]byte{1, 0, 2}, ret, wrongOp), 11, api.ErrOp},
		{join([]byte{1, 0, 2}, wrongRange, wrongOp), 3, api.ErrRange},
		{join([]byte{1}, one, []byte{0}), 11, api.ErrForm},
		{join([]byte{1}, one, one), 11, api.ErrForm},
		{join([]byte{2}, one), 11, api.ErrForm},
		{join([]byte{2}, one, []byte{0}), 11, api.ErrForm},
		{join([]byte{2}, one, []byte{0, 0}), 12, api.ErrLong},
		{join([]byte{2}, one, []byte{0, 129}), 12, api.ErrLong},
		{join([]byte{2}, one, []byte{0, 1}), 13, api.ErrForm},
		{join([]byte{2}, one, []byte{0, 1}, wrongOp), 13, api.ErrOp},
		{join([]byte{2}, one, one, []byte{0, 0}), 21, api.ErrForm},
		{join([]byte{32}, bytes.Repeat(one, 31)), 311, api.ErrForm},
		{join([]byte{32}, bytes.Repeat(one, 33)), 321, api.ErrForm},
	} {
		if p, at, e := code.Unpack(c.b); p.Funcs != nil || at != c.at || e != c.e {
			t.Errorf("%d: Unpack(%v): %v, %d, %v, not %d, %v", i, c.b, p, at, e, c.at, c.e)
		}
	}
}

// unpacked is what Unpack has to say, told place by place instead of by reading on.
func unpacked(b []byte) (api.Program, int, api.Errno) {
	if len(b) == 0 {
		return api.Program{}, 0, api.ErrForm
	}
	if b[0] == 0 || b[0] > 32 {
		return api.Program{}, 0, api.ErrLong
	}
	p, at := api.Program{}, 1
	for len(p.Funcs) < int(b[0]) {
		if at+2 > len(b) {
			return api.Program{}, at, api.ErrForm
		}
		f, n := api.Func{Needs: int(b[at])}, int(b[at+1])
		if n == 0 || n > 128 {
			return api.Program{}, at + 1, api.ErrLong
		}
		at += 2
		for ; len(f.Code) < n; at += 8 {
			if at+8 > len(b) {
				return api.Program{}, at, api.ErrForm
			}
			i, e := told(b[at : at+8])
			if e != api.OK {
				return api.Program{}, at, e
			}
			f.Code = append(f.Code, i)
		}
		p.Funcs = append(p.Funcs, f)
	}
	if at < len(b) {
		return api.Program{}, at, api.ErrForm
	}
	return p, 0, api.OK
}

// program is one that may be packed, of instructions out of a list.
func program(upTo func(int) int, some []api.Instr) api.Program {
	p := api.Program{}
	for range 1 + upTo(4) {
		f := api.Func{Needs: upTo(256)}
		for range 1 + upTo(5) {
			f.Code = append(f.Code, some[upTo(len(some))])
		}
		p.Funcs = append(p.Funcs, f)
	}
	return p
}

func all() []api.Instr {
	var some []api.Instr
	every(func(i api.Instr) { some = append(some, i) })
	return some
}

// TestP24Bytes holds programs' bytes, of which some are turned, cut, or put in, against the test's own reading.
func TestP24Bytes(t *testing.T) {
	upTo, some := numbers(), all()
	seen := map[api.Errno]int{}
	for range 30000 {
		b, _ := code.Pack(program(upTo, some))
		switch at := upTo(len(b)); upTo(6) {
		case 0:
			b[at] = byte(upTo(256))
		case 1:
			b[at] = byte(upTo(20))
		case 2:
			b = b[:at]
		case 3:
			b = slices.Insert(b, at, byte(upTo(3)))
		case 4:
			b = slices.Delete(b, at, at+1)
		}
		p, at, e := code.Unpack(b)
		q, place, f := unpacked(b)
		if at != place || e != f || !reflect.DeepEqual(p, q) {
			t.Fatalf("Unpack(%v): %v, %d, %v, not %v, %d, %v", b, p, at, e, q, place, f)
		}
		seen[e]++
		if e != api.OK {
			continue
		}
		if c, e := code.Pack(p); e != api.OK || !bytes.Equal(b, c) {
			t.Fatalf("Unpack(%v): packed, it is %v, %v", b, c, e)
		}
	}
	for _, e := range []api.Errno{api.OK, api.ErrForm, api.ErrLong, api.ErrOp, api.ErrRange} {
		if seen[e] < 100 {
			t.Errorf("%v was answered %d times", e, seen[e])
		}
	}
}

func TestP24Same(t *testing.T) {
	made := func(change func(*api.Program)) api.Program {
		p := api.Program{Funcs: []api.Func{
			{Needs: 3, Code: []api.Instr{{Op: api.Fork, A: 1, N: 1}, {Op: api.Return, A: 2}}},
			{Code: []api.Instr{{Op: api.Panic}}},
		}}
		change(&p)
		return p
	}
	as := made(func(*api.Program) {})
	if !code.Same(as, made(func(*api.Program) {})) || !code.Same(as, as) {
		t.Error("not the same")
	}
	for i, change := range []func(*api.Program){
		func(p *api.Program) { p.Funcs = nil },
		func(p *api.Program) { p.Funcs = p.Funcs[:1] },
		func(p *api.Program) { p.Funcs = p.Funcs[1:] },
		func(p *api.Program) { p.Funcs = append(p.Funcs, api.Func{}) },
		func(p *api.Program) { p.Funcs[0], p.Funcs[1] = p.Funcs[1], p.Funcs[0] },
		func(p *api.Program) { p.Funcs[0].Needs = 2 },
		func(p *api.Program) { p.Funcs[1].Needs = 256 },
		func(p *api.Program) { p.Funcs[0].Code = p.Funcs[0].Code[:1] },
		func(p *api.Program) { p.Funcs[1].Code = nil },
		func(p *api.Program) { p.Funcs[1].Code = append(p.Funcs[1].Code, api.Instr{}) },
		func(p *api.Program) { slices.Reverse(p.Funcs[0].Code) },
		func(p *api.Program) { p.Funcs[0].Code[0].Op = api.Return },
		func(p *api.Program) { p.Funcs[0].Code[0].A = 2 },
		func(p *api.Program) { p.Funcs[0].Code[0].B = 1 },
		func(p *api.Program) { p.Funcs[0].Code[0].C = 1 },
		func(p *api.Program) { p.Funcs[0].Code[1].N = 1 },
		func(p *api.Program) { p.Funcs[1].Code[0].A = 1 << 32 },
	} {
		if other := made(change); code.Same(as, other) || code.Same(other, as) {
			t.Errorf("%d: the same", i)
		}
	}
	// Programs that may not be are held against each other as well; a list without elements is nil or not.
	for i, c := range [][2]api.Program{
		{{}, {}},
		{{}, {Funcs: []api.Func{}}},
		{{Funcs: []api.Func{{}}}, {Funcs: []api.Func{{Code: []api.Instr{}}}}},
		{{Funcs: []api.Func{{Needs: -1, Code: []api.Instr{{Op: 99}}}}}, {Funcs: []api.Func{{Needs: -1, Code: []api.Instr{{Op: 99}}}}}},
	} {
		if !code.Same(c[0], c[1]) || !code.Same(c[1], c[0]) {
			t.Errorf("%d: not the same", i)
		}
	}
}

func TestP25Instructions(t *testing.T) {
	of := map[string]api.Instr{}
	every(func(i api.Instr) {
		b, e := code.Encode(i)
		if e != api.OK || len(b) != 8 {
			t.Fatalf("Encode(%v): %v, %v", i, b, e)
		}
		if j, e := code.Decode(b); e != api.OK || i != j {
			t.Fatalf("Decode(Encode(%v)): %v, %v", i, j, e)
		}
		if j, ok := of[string(b)]; ok && i != j {
			t.Fatalf("%v and %v have the same bytes", i, j)
		}
		of[string(b)] = i
	})
}

func TestP25Programs(t *testing.T) {
	upTo, some := numbers(), all()
	for range 500 {
		p := program(upTo, some)
		b, e := code.Pack(p)
		if e != api.OK {
			t.Fatalf("Pack(%v): %v", p, e)
		}
		q, at, e := code.Unpack(b)
		if e != api.OK || at != 0 || !code.Same(p, q) || !reflect.DeepEqual(p, q) {
			t.Fatalf("Unpack(Pack(%v)): %v, %d, %v", p, q, at, e)
		}
		for n := range b {
			if _, at, e := code.Unpack(b[:n]); e != api.ErrForm || at > n {
				t.Fatalf("%v, cut to %d: %d, %v", b, n, at, e)
			}
		}
		behind := join(b, b)
		for n := 1; n <= len(b); n++ {
			if _, at, e := code.Unpack(behind[:len(b)+n]); e != api.ErrForm || at != len(b) {
				t.Fatalf("%v, with %d behind it: %d, %v", b, n, at, e)
			}
		}
	}
}

// TestMemory holds what is handed in, and what lies behind its length, against what it was (R2).
func TestMemory(t *testing.T) {
	p := api.Program{Funcs: make([]api.Func, 2, 4)}
	for k := range p.Funcs {
		p.Funcs[k] = api.Func{Needs: 9, Code: append(make([]api.Instr, 0, 8), returns(3)...)}
	}
	was := full(2, 3)
	was.Funcs[0].Needs, was.Funcs[1].Needs = 9, 9
	b, _ := code.Pack(p)
	room := append(bytes.Clone(b), 1, 2, 3)
	kept := bytes.Clone(room)
	q, _, e := code.Unpack(room[:len(b)])
	code.Decode(room[3:11])
	if e != api.OK || !bytes.Equal(room, kept) {
		t.Error("the bytes are written into", e)
	}
	if !reflect.DeepEqual(p, was) || p.Funcs[0].Code[:4][3] != (api.Instr{}) || p.Funcs[:3][2].Needs != 0 {
		t.Error("the program is written into")
	}
	// What is answered is the caller's: nothing else sees what is done to it.
	clear(room)
	if !reflect.DeepEqual(q, was) {
		t.Error("the program stands on the bytes that were handed in")
	}
	q.Funcs[0].Code = append(q.Funcs[0].Code, api.Instr{Op: api.Cancel})
	q.Funcs[0].Code[0].A = 5
	if !reflect.DeepEqual(q.Funcs[1], was.Funcs[1]) {
		t.Error("two functions share their instructions")
	}
	c, _ := code.Pack(p)
	clear(b)
	if d, _ := code.Pack(p); !bytes.Equal(c, d) || bytes.Equal(b, c) {
		t.Error("two answers share their bytes")
	}
	i := api.Instr{Op: api.Return, A: 3}
	x, _ := code.Encode(i)
	y, _ := code.Encode(i)
	clear(x)
	if z, _ := code.Encode(i); y[1] != 3 || z[1] != 3 {
		t.Error("two instructions share their bytes")
	}
}
