package asm_test

import (
	"math"
	"math/big"
	"reflect"
	"regexp"
	"slices"
	"strconv"
	"strings"
	"testing"

	"peloton/api"
	"peloton/asm"
	"peloton/code"
)

// operand is what the document's tables say of a word: the field that it tells (0 to 3: A, B, C and N), how it is written, and its range.
type operand struct {
	field     int
	mark      string
	below     bool // whether a number below 0 may be written
	low, high int
}

func marked(field int, mark string, high int) operand {
	return operand{field: field, mark: mark, high: high}
}

func number(low, high int) operand { return operand{field: 3, below: true, low: low, high: high} }

// spec writes the document's tables out once more, so that the program's own ones are held against them.
func spec() []struct {
	name string
	has  []operand
} {
	a, b, c := marked(0, "r", 7), marked(1, "r", 7), marked(2, "r", 7)
	to := number(0, 127)
	return []struct {
		name string
		has  []operand
	}{
		{"const", []operand{a, number(-2147483648, 2147483647)}},
		{"move", []operand{a, b}},
		{"add", []operand{a, b, c}},
		{"sub", []operand{a, b, c}},
		{"mul", []operand{a, b, c}},
		{"less", []operand{a, b, c}},
		{"jump", []operand{to}},
		{"if", []operand{a, to}},
		{"fork", []operand{marked(0, "h", 7), marked(3, "f", 31)}},
		{"join", []operand{a, marked(1, "h", 7)}},
		{"try", []operand{a, b, marked(2, "h", 7)}},
		{"open", []operand{number(0, 65535)}},
		{"close", []operand{a}},
		{"cancel", nil},
		{"check", nil},
		{"panic", []operand{a}},
		{"return", []operand{a}},
	}
}

func instr(op int, f [4]int) api.Instr {
	return api.Instr{Op: op, A: f[0], B: f[1], C: f[2], N: f[3]}
}

// written is the text that an instruction should have, and the instruction.
func written(op int, value func(operand) int) (string, api.Instr) {
	s, f := spec()[op].name, [4]int{}
	for _, o := range spec()[op].has {
		f[o.field] = value(o)
		s += " " + o.mark + strconv.Itoa(f[o.field])
	}
	return s, instr(op, f)
}

// every tells each instruction with its operands at the ends of their ranges and between, and the text that it should have.
func every(tell func(string, api.Instr)) {
	for op := range api.Ops {
		for turn := range 5 * 5 * 5 {
			left := turn
			tell(written(op, func(o operand) int {
				pick := left % 5
				left /= 5
				return []int{o.low, o.low + 1, (o.low + o.high) / 2, o.high - 1, o.high}[pick]
			}))
		}
	}
}

var (
	numeral = regexp.MustCompile(`\A(0|[1-9][0-9]*)\z`)
	signed  = regexp.MustCompile(`\A(0|-?[1-9][0-9]*)\z`)
)

// value is what a word should tell of an operand.
func (o operand) value(w string) (int, api.Errno) {
	form, digits := numeral, strings.TrimPrefix(w, o.mark)
	if o.below {
		form = signed
	}
	if !strings.HasPrefix(w, o.mark) || !form.MatchString(digits) {
		return 0, api.ErrForm
	}
	n, _ := new(big.Int).SetString(digits, 10)
	if n.Cmp(big.NewInt(int64(o.low))) < 0 || n.Cmp(big.NewInt(int64(o.high))) > 0 {
		return 0, api.ErrRange
	}
	return int(n.Int64()), api.OK
}

// told is what Read has to say, told by the document's tables.
func told(s string) (api.Instr, api.Errno) {
	words := strings.Split(s, " ")
	for op, row := range spec() {
		if row.name != words[0] {
			continue
		}
		if len(words) != 1+len(row.has) {
			return api.Instr{}, api.ErrForm
		}
		var f [4]int
		for k, o := range row.has {
			x, e := o.value(words[1+k])
			if e != api.OK {
				return api.Instr{}, e
			}
			f[o.field] = x
		}
		return instr(op, f), api.OK
	}
	return api.Instr{}, api.ErrName
}

// numbers is a row of numbers that is the same each time.
func numbers() func(n int) int {
	seed := uint32(7)
	return func(n int) int {
		seed = seed*1664525 + 1013904223
		return int(seed>>8) % n
	}
}

func TestP31Line(t *testing.T) {
	for _, c := range []struct {
		i api.Instr
		s string
	}{
		{api.Instr{Op: api.Try, A: 1, B: 2, C: 3}, "try r1 r2 h3"},
		{api.Instr{Op: api.Const, N: -5}, "const r0 -5"},
		{api.Instr{Op: api.Fork, A: 7, N: 31}, "fork h7 f31"},
		{api.Instr{Op: api.Const, A: 7, N: 2147483647}, "const r7 2147483647"},
		{api.Instr{Op: api.Const}, "const r0 0"},
		{api.Instr{Op: api.Move, A: 1, B: 2}, "move r1 r2"},
		{api.Instr{Op: api.Add, A: 1, B: 2, C: 3}, "add r1 r2 r3"},
		{api.Instr{Op: api.Sub, A: 3, B: 2, C: 1}, "sub r3 r2 r1"},
		{api.Instr{Op: api.Mul, A: 7, B: 0, C: 7}, "mul r7 r0 r7"},
		{api.Instr{Op: api.Less, A: 0, B: 1, C: 0}, "less r0 r1 r0"},
		{api.Instr{Op: api.Jump, N: 127}, "jump 127"},
		{api.Instr{Op: api.If, A: 3, N: 10}, "if r3 10"},
		{api.Instr{Op: api.Join, A: 3, B: 4}, "join r3 h4"},
		{api.Instr{Op: api.Open}, "open 0"},
		{api.Instr{Op: api.Open, N: 65535}, "open 65535"},
		{api.Instr{Op: api.Close, A: 5}, "close r5"},
		{api.Instr{Op: api.Cancel}, "cancel"},
		{api.Instr{Op: api.Check}, "check"},
		{api.Instr{Op: api.Panic, A: 6}, "panic r6"},
		{api.Instr{Op: api.Return}, "return r0"},
	} {
		if s, e := asm.Line(c.i); s != c.s || e != api.OK {
			t.Errorf("Line(%v): %q, %v, not %q", c.i, s, e, c.s)
		}
		if i, e := asm.Read(c.s); i != c.i || e != api.OK {
			t.Errorf("Read(%q): %v, %v, not %v", c.s, i, e, c.i)
		}
	}
	every(func(want string, i api.Instr) {
		if s, e := asm.Line(i); s != want || e != api.OK {
			t.Errorf("Line(%v): %q, %v, not %q", i, s, e, want)
		}
	})
}

func TestP31LineErrors(t *testing.T) {
	for _, c := range []struct {
		i api.Instr
		e api.Errno
	}{
		{api.Instr{Op: -1}, api.ErrOp},
		{api.Instr{Op: 17}, api.ErrOp},
		{api.Instr{Op: math.MinInt, A: 9}, api.ErrOp},
		{api.Instr{Op: math.MaxInt, N: -1}, api.ErrOp},
		{api.Instr{Op: api.Return, A: 8}, api.ErrRange},
		{api.Instr{Op: api.Return, A: -1}, api.ErrRange},
		{api.Instr{Op: api.Return, B: 1}, api.ErrRange}, // a field that would not be written
		{api.Instr{Op: api.Check, N: math.MinInt}, api.ErrRange},
		{api.Instr{Op: api.Const, N: 1 << 31}, api.ErrRange},
		{api.Instr{Op: api.Const, N: -1<<31 - 1}, api.ErrRange},
		{api.Instr{Op: api.Jump, N: 128}, api.ErrRange},
		{api.Instr{Op: api.Fork, N: 32}, api.ErrRange},
		{api.Instr{Op: api.Open, N: 65536}, api.ErrRange},
		{api.Instr{Op: api.Try, C: 8}, api.ErrRange},
	} {
		if s, e := asm.Line(c.i); s != "" || e != c.e {
			t.Errorf("Line(%v): %q, %v, not %v", c.i, s, e, c.e)
		}
	}
}

func TestP31ReadErrors(t *testing.T) {
	for _, c := range []struct {
		s string
		e api.Errno
	}{
		{"", api.ErrName},
		{" ", api.ErrName},
		{"nop", api.ErrName},
		{"func 0 needs 0", api.ErrName},
		{"needs", api.ErrName},
		{" check", api.ErrName},
		{"Check", api.ErrName},
		{"chec", api.ErrName},
		{"checks", api.ErrName},
		{"check\n", api.ErrName},
		{"check\x00", api.ErrName},
		{"move\tr1 r2", api.ErrName},
		{"nop r9 x y z", api.ErrName},
		{"check ", api.ErrForm},
		{"check check", api.ErrForm},
		{"cancel 0", api.ErrForm},
		{"move", api.ErrForm},
		{"move r1", api.ErrForm},
		{"move r1 r2 r3", api.ErrForm},
		{"move r1 r2 ", api.ErrForm},
		{"move r1  r2", api.ErrForm},
		{"move  r1", api.ErrForm}, // as many words as there should be, one of them without bytes
		{"move r1 ", api.ErrForm},
		{"move r8 r2 r3", api.ErrForm}, // how many words, ahead of their ranges
		{"add r1 r2", api.ErrForm},
		{"add r1 r2 r3 r4", api.ErrForm},
		{"add r1 r2 r3 r4 r5 r6 r7", api.ErrForm},
		{"return", api.ErrForm},
		{"return 0", api.ErrForm},
		{"return r", api.ErrForm},
		{"return R0", api.ErrForm},
		{"return rr0", api.ErrForm},
		{"return h0", api.ErrForm},
		{"return r00", api.ErrForm},
		{"return r07", api.ErrForm},
		{"return r-1", api.ErrForm},
		{"return r-0", api.ErrForm},
		{"return r+1", api.ErrForm},
		{"return r1x", api.ErrForm},
		{"return r1_0", api.ErrForm},
		{"return r0x1", api.ErrForm},
		{"return r0\n", api.ErrForm},
		{"return r0\r", api.ErrForm},
		{"return r\xd9\xa1", api.ErrForm}, // a digit of another script
		{"return r8", api.ErrRange},
		{"return r10", api.ErrRange},
		{"return r256", api.ErrRange},
		{"return r4294967296", api.ErrRange},
		{"return r9223372036854775807", api.ErrRange},
		{"return r9223372036854775808", api.ErrRange},
		{"return r18446744073709551616", api.ErrRange}, // 0, if it went round
		{"return r" + strings.Repeat("9", 10000), api.ErrRange},
		{"return r" + strings.Repeat("9", 10000) + "x", api.ErrForm},
		{"return r0" + strings.Repeat("0", 10000), api.ErrForm},
		{"move h1 r8", api.ErrForm}, // the operands in order: the first one that is wrong
		{"move r8 h1", api.ErrRange},
		{"move r8 r8", api.ErrRange},
		{"less r0 r8 x", api.ErrRange},
		{"less r0 x r8", api.ErrForm},
		{"try r1 r2 r3", api.ErrForm},
		{"try r1 r2 3", api.ErrForm},
		{"try r1 h2 h3", api.ErrForm},
		{"try r1 r2 h8", api.ErrRange},
		{"join h1 h2", api.ErrForm},
		{"join r1 r2", api.ErrForm},
		{"join r1 h8", api.ErrRange},
		{"fork r1 f2", api.ErrForm},
		{"fork h1 2", api.ErrForm},
		{"fork h1 h2", api.ErrForm},
		{"fork h1 f-1", api.ErrForm},
		{"fork h8 f0", api.ErrRange},
		{"fork h1 f32", api.ErrRange},
		{"jump", api.ErrForm},
		{"jump ", api.ErrForm},
		{"jump -", api.ErrForm},
		{"jump -0", api.ErrForm},
		{"jump +1", api.ErrForm},
		{"jump --1", api.ErrForm},
		{"jump -01", api.ErrForm},
		{"jump 00", api.ErrForm},
		{"jump 1.0", api.ErrForm},
		{"jump 1e1", api.ErrForm},
		{"jump r1", api.ErrForm},
		{"jump -1", api.ErrRange},
		{"jump 128", api.ErrRange},
		{"if r0 r0", api.ErrForm},
		{"if 0 0", api.ErrForm},
		{"if r0 128", api.ErrRange},
		{"if r0 -1", api.ErrRange},
		{"open -0", api.ErrForm},
		{"open -1", api.ErrRange},
		{"open 65536", api.ErrRange},
		{"const r0 -0", api.ErrForm},
		{"const r0 r0", api.ErrForm},
		{"const 0 0", api.ErrForm},
		{"const r0 2147483648", api.ErrRange},
		{"const r0 -2147483649", api.ErrRange},
		{"const r0 4294967295", api.ErrRange},
		{"const r0 -9223372036854775808", api.ErrRange},
		{"const r0 -9223372036854775809", api.ErrRange},
		{"const r0 -18446744073709551615", api.ErrRange}, // 1, if it went round
		{"const r8 -0", api.ErrRange},
		{"const r0 -" + strings.Repeat("9", 10000), api.ErrRange},
	} {
		if i, e := asm.Read(c.s); i != (api.Instr{}) || e != c.e {
			t.Errorf("Read(%.40q): %v, %v, not %v", c.s, i, e, c.e)
		}
	}
	if _, e := asm.Read(strings.Repeat(" ", 1<<20)); e != api.ErrName {
		t.Error(e)
	}
	if _, e := asm.Read("check" + strings.Repeat(" ", 1<<20)); e != api.ErrForm {
		t.Error(e)
	}
}

// TestP31ReadEdges lets each operand be a number around which its range, or another one's, ends, and be written in each way.
func TestP31ReadEdges(t *testing.T) {
	var digits []string
	for _, x := range []int64{0, 7, 8, 31, 32, 127, 128, 255, 256, 65535, 65536, math.MinInt32, math.MaxInt32, 1 << 32, math.MinInt64 + 1, math.MaxInt64 - 1} {
		for by := int64(-1); by <= 1; by++ {
			digits = append(digits, strconv.FormatInt(x+by, 10))
		}
	}
	digits = append(digits, "", "-", "-0", "00", "01", "+1", "-9223372036854775809", "9223372036854775808", "18446744073709551616")
	for op, row := range spec() {
		for k := range row.has {
			right, _ := written(op, func(o operand) int { return o.high })
			words := strings.Split(right, " ")
			for _, mark := range []string{"", "r", "h", "f", "rr", " ", "n"} {
				for _, d := range digits {
					words[1+k] = mark + d
					s := strings.Join(words, " ")
					i, e := asm.Read(s)
					if want, f := told(s); i != want || e != f {
						t.Errorf("Read(%q): %v, %v, not %v, %v", s, i, e, want, f)
					}
				}
			}
		}
	}
}

// turned is a text of which one byte is turned, taken out, or put in, or a piece is cut.
func turned(s string, upTo func(int) int) string {
	const some = " rhfn01789-+\ncheckfuncneeds"
	at, end := upTo(len(s)), upTo(len(s)+1)
	by := string(some[upTo(len(some))])
	switch upTo(5) {
	case 0:
		return s[:at] + by + s[at+1:]
	case 1:
		return s[:at] + s[at+1:]
	case 2:
		return s[:end] + by + s[end:]
	case 3:
		return s[:at]
	}
	return s[:min(at, end)] + s[max(at, end):]
}

// TestP31ReadTurned holds lines of which something is turned against the test's own reading.
func TestP31ReadTurned(t *testing.T) {
	upTo := numbers()
	seen := map[api.Errno]int{}
	for range 100 {
		every(func(s string, _ api.Instr) {
			if upTo(8) > 0 {
				return
			}
			s = turned(s, upTo)
			i, e := asm.Read(s)
			if want, f := told(s); i != want || e != f {
				t.Fatalf("Read(%q): %v, %v, not %v, %v", s, i, e, want, f)
			}
			seen[e]++
		})
	}
	for _, e := range []api.Errno{api.OK, api.ErrName, api.ErrForm, api.ErrRange} {
		if seen[e] < 100 {
			t.Errorf("%v was answered %d times", e, seen[e])
		}
	}
}

func returns(n int) []api.Instr {
	return slices.Repeat([]api.Instr{{Op: api.Return, A: 3}}, n)
}

func full(funcs, n int) api.Program {
	p := api.Program{}
	for range funcs {
		p.Funcs = append(p.Funcs, api.Func{Code: returns(n)})
	}
	return p
}

func TestP32Print(t *testing.T) {
	for _, c := range []struct {
		p api.Program
		s string
	}{
		{api.Program{Funcs: []api.Func{{Code: []api.Instr{{Op: api.Return}}}}}, "func 0 needs 0\nreturn r0\n"},
		{api.Program{Funcs: []api.Func{{Needs: 255, Code: []api.Instr{{Op: api.Cancel}}}}}, "func 0 needs 255\ncancel\n"},
		{api.Program{Funcs: []api.Func{
			{Needs: 10, Code: []api.Instr{{Op: api.Fork, A: 1, N: 1}, {Op: api.Try, A: 1, B: 2, C: 3}}},
			{Needs: 3, Code: []api.Instr{{Op: api.Panic, A: 7}}},
		}}, "func 0 needs 10\nfork h1 f1\ntry r1 r2 h3\nfunc 1 needs 3\npanic r7\n"},
	} {
		if s, e := asm.Print(c.p); s != c.s || e != api.OK {
			t.Errorf("Print(%v): %q, %v, not %q", c.p, s, e, c.s)
		}
	}
}

func TestP32PrintErrors(t *testing.T) {
	badOp, badRange := api.Instr{Op: 17}, api.Instr{Op: api.Return, B: 1}
	right := api.Func{Code: returns(1)}
	for i, c := range []struct {
		funcs []api.Func
		e     api.Errno
	}{
		{nil, api.ErrLong},
		{[]api.Func{}, api.ErrLong},
		{full(33, 1).Funcs, api.ErrLong},
		{[]api.Func{{Needs: -1, Code: returns(1)}}, api.ErrRange},
		{[]api.Func{{Needs: 256, Code: returns(1)}}, api.ErrRange},
		{[]api.Func{{}}, api.ErrLong},
		{[]api.Func{{Code: returns(129)}}, api.ErrLong},
		{[]api.Func{{Code: []api.Instr{badOp}}}, api.ErrOp},
		{[]api.Func{{Code: []api.Instr{badRange, badOp}}}, api.ErrRange},
		{[]api.Func{right, {Needs: 256}}, api.ErrRange},
		{[]api.Func{right, {Code: []api.Instr{{Op: api.Cancel}, badOp}}, {}}, api.ErrOp},
	} {
		p := api.Program{Funcs: c.funcs}
		if s, e := asm.Print(p); s != "" || e != c.e {
			t.Errorf("%d: Print: %q, %v, not %v", i, s, e, c.e)
		}
		if _, e := code.Pack(p); e != c.e {
			t.Errorf("%d: Pack: %v, not %v", i, e, c.e)
		}
	}
}

// heads is the text of so many functions of one instruction each.
func heads(n int) string {
	s := ""
	for k := range n {
		s += "func " + strconv.Itoa(k) + " needs 0\ncheck\n"
	}
	return s
}

func TestP33Errors(t *testing.T) {
	const one = "func 0 needs 0\ncheck\n"
	huge := strings.Repeat("9", 100)
	for _, c := range []struct {
		s  string
		at int
		e  api.Errno
	}{
		// No line feed.
		{"func 0 needs 0", 1, api.ErrForm},
		{"x", 1, api.ErrForm},
		{" ", 1, api.ErrForm},
		{"func 0 needs 0\ncheck", 2, api.ErrForm},
		{one + "nop", 3, api.ErrForm},
		{one + "func 1 needs 256", 3, api.ErrForm},
		{one + " ", 3, api.ErrForm},
		{one + "nop\ncheck", 3, api.ErrName}, // the first line that is wrong is told
		// A function's line.
		{"func\n", 1, api.ErrForm},
		{"func \n", 1, api.ErrForm},
		{"func 0 needs\n", 1, api.ErrForm},
		{"func 0 needs \n", 1, api.ErrForm},
		{"func 0 needs 0 \n", 1, api.ErrForm},
		{"func 0 needs 0 0\n", 1, api.ErrForm},
		{"func 0 needs 0 0 0 0\n", 1, api.ErrForm},
		{"func  0 needs 0\n", 1, api.ErrForm},
		{"func  needs 0\n", 1, api.ErrForm},
		{"func 0 need 0\n", 1, api.ErrForm},
		{"func 0 Needs 0\n", 1, api.ErrForm},
		{"func needs 0 0\n", 1, api.ErrForm},
		{"func 00 needs 0\n", 1, api.ErrForm},
		{"func -0 needs 0\n", 1, api.ErrForm},
		{"func -1 needs 0\n", 1, api.ErrForm},
		{"func +0 needs 0\n", 1, api.ErrForm},
		{"func f0 needs 0\n", 1, api.ErrForm},
		{"func 0 needs 00\n", 1, api.ErrForm},
		{"func 0 needs -1\n", 1, api.ErrForm},
		{"func 0 needs x\n", 1, api.ErrForm},
		{"func 0 needs 0\r\n", 1, api.ErrForm},
		{"func 9 needs x\n", 1, api.ErrForm}, // ahead of ErrRange
		{"func " + huge + " needs x\n", 1, api.ErrForm},
		{"func 1 needs 0\n", 1, api.ErrRange},
		{"func 0 needs 256\n", 1, api.ErrRange},
		{"func " + huge + " needs 0\n", 1, api.ErrRange},
		{"func 0 needs " + huge + "\n", 1, api.ErrRange},
		{"func 18446744073709551616 needs 0\n", 1, api.ErrRange},
		{"func 0 needs 18446744073709551616\n", 1, api.ErrRange},
		{one + "func 0 needs 0\n", 3, api.ErrRange},
		{one + "func 2 needs 0\n", 3, api.ErrRange},
		{one + "func 1 needs 256\n", 3, api.ErrRange},
		{"func 0 needs 0\nfunc 1 needs 0\n", 2, api.ErrLong},
		{"func 0 needs 0\nfunc 7 needs 999\n", 2, api.ErrLong}, // ahead of ErrRange
		{"func 0 needs 0\nfunc " + huge + " needs 0\n", 2, api.ErrLong},
		{"func 0 needs 0\nfunc x needs 0\n", 2, api.ErrForm}, // ahead of ErrLong
		{heads(32) + "func 32 needs 0\n", 65, api.ErrLong},
		{heads(32) + "func 0 needs 999\n", 65, api.ErrLong},
		{heads(32) + "func 32\n", 65, api.ErrForm},
		{heads(31) + "func 32 needs 0\n", 63, api.ErrRange},
		// Another line.
		{"\n", 1, api.ErrForm},
		{"check\n", 1, api.ErrForm},
		{"nop\n", 1, api.ErrForm}, // ahead of ErrName
		{" func 0 needs 0\n", 1, api.ErrForm},
		{"Func 0 needs 0\n", 1, api.ErrForm},
		{"func0 needs 0\n", 1, api.ErrForm},
		{one + "\n", 3, api.ErrName},
		{one + "nop\n", 3, api.ErrName},
		{one + " check\n", 3, api.ErrName},
		{one + " func 1 needs 0\n", 3, api.ErrName},
		{one + "check\r\n", 3, api.ErrName},
		{one + "check \n", 3, api.ErrForm},
		{one + "move r1\n", 3, api.ErrForm},
		{one + "move r1 r8\n", 3, api.ErrRange},
		{"func 0 needs 0\nmove r8 x\ncheck\n", 2, api.ErrRange},
		{one + strings.Repeat("check\n", 128), 130, api.ErrLong},
		{one + strings.Repeat("check\n", 127) + "nop\n", 130, api.ErrName}, // ahead of ErrLong
		{one + strings.Repeat("check\n", 127) + "check r0\n", 130, api.ErrForm},
		{one + "func 1 needs 0\n" + strings.Repeat("cancel\n", 129), 132, api.ErrLong},
		// No line is wrong.
		{"", 1, api.ErrLong},
		{"func 0 needs 0\n", 2, api.ErrLong},
		{one + "func 1 needs 255\n", 4, api.ErrLong},
		// Too many bytes, ahead of all else.
		{strings.Repeat("\n", api.MaxText), 1, api.ErrForm},
		{strings.Repeat("\n", api.MaxText+1), 0, api.ErrLong},
		{one + strings.Repeat("x", api.MaxText-len(one)-1) + "\n", 3, api.ErrName},
		{one + strings.Repeat("x", api.MaxText-len(one)) + "\n", 0, api.ErrLong},
	} {
		if p, at, e := asm.Parse(c.s); p.Funcs != nil || at != c.at || e != c.e {
			t.Errorf("Parse(%.60q): %v, %d, %v, not %d, %v", c.s, p, at, e, c.at, c.e)
		}
	}
}

func TestP33Parse(t *testing.T) {
	for _, c := range []struct {
		s string
		p api.Program
	}{
		{"func 0 needs 0\nreturn r0\n", api.Program{Funcs: []api.Func{{Code: []api.Instr{{Op: api.Return}}}}}},
		{"func 0 needs 255\ncheck\nconst r1 -7\nfunc 1 needs 1\njoin r1 h0\n", api.Program{Funcs: []api.Func{
			{Needs: 255, Code: []api.Instr{{Op: api.Check}, {Op: api.Const, A: 1, N: -7}}},
			{Needs: 1, Code: []api.Instr{{Op: api.Join, A: 1}}},
		}}},
	} {
		if p, at, e := asm.Parse(c.s); at != 0 || e != api.OK || !reflect.DeepEqual(p, c.p) {
			t.Errorf("Parse(%q): %v, %d, %v, not %v", c.s, p, at, e, c.p)
		}
	}
	p, at, e := asm.Parse(heads(32))
	if at != 0 || e != api.OK || len(p.Funcs) != 32 {
		t.Error(len(p.Funcs), at, e)
	}
}

// TestP33Greatest is about the program that has the longest text: it is within what may be read.
func TestP33Greatest(t *testing.T) {
	p := full(32, 128)
	for k := range p.Funcs {
		p.Funcs[k].Needs = 255
		for n := range p.Funcs[k].Code {
			p.Funcs[k].Code[n] = api.Instr{Op: api.Const, A: 7, N: -2147483648}
		}
	}
	s, e := asm.Print(p)
	if e != api.OK || len(s) > api.MaxText {
		t.Fatal(len(s), e)
	}
	if q, at, e := asm.Parse(s); at != 0 || e != api.OK || !code.Same(p, q) {
		t.Error(at, e)
	}
}

// parsed is what Parse has to say, told line by line of a list.
func parsed(s string) (api.Program, int, api.Errno) {
	lines := strings.Split(s, "\n")
	head := regexp.MustCompile(`\Afunc (0|[1-9][0-9]*) needs (0|[1-9][0-9]*)\z`)
	var funcs []api.Func
	for n, line := range lines[:len(lines)-1] {
		e := api.OK
		switch {
		case strings.Split(line, " ")[0] == "func":
			m := head.FindStringSubmatch(line)
			switch {
			case m == nil:
				e = api.ErrForm
			case len(funcs) == 32 || len(funcs) > 0 && funcs[len(funcs)-1].Code == nil:
				e = api.ErrLong
			case m[1] != strconv.Itoa(len(funcs)) || len(m[2]) > 3 || len(m[2]) == 3 && m[2] > "255":
				e = api.ErrRange
			default:
				needs, _ := strconv.Atoi(m[2])
				funcs = append(funcs, api.Func{Needs: needs})
			}
		case funcs == nil:
			e = api.ErrForm
		default:
			var i api.Instr
			f := &funcs[len(funcs)-1]
			if i, e = told(line); e == api.OK && len(f.Code) == 128 {
				e = api.ErrLong
			}
			f.Code = append(f.Code, i)
		}
		if e != api.OK {
			return api.Program{}, n + 1, e
		}
	}
	if lines[len(lines)-1] != "" {
		return api.Program{}, len(lines), api.ErrForm
	}
	if funcs == nil || funcs[len(funcs)-1].Code == nil {
		return api.Program{}, len(lines), api.ErrLong
	}
	return api.Program{Funcs: funcs}, 0, api.OK
}

// program is one that may be packed, of instructions out of a list.
func program(upTo func(int) int, some []api.Instr) api.Program {
	p := api.Program{}
	for range 1 + upTo(4) {
		f := api.Func{Needs: upTo(256)}
		for range 1 + upTo(5) {
			f.Code = append(f.Code, some[upTo(len(some))])
		}
		p.Funcs = append(p.Funcs, f)
	}
	return p
}

func all() []api.Instr {
	var some []api.Instr
	every(func(_ string, i api.Instr) { some = append(some, i) })
	return some
}

// TestP33Turned holds programs' texts, of which something is turned, or lines change places, against the test's own reading.
func TestP33Turned(t *testing.T) {
	upTo, some := numbers(), all()
	seen := map[api.Errno]int{}
	for range 20000 {
		s, _ := asm.Print(program(upTo, some))
		if upTo(3) == 0 {
			lines := strings.SplitAfter(s, "\n")
			x, y := upTo(len(lines)), upTo(len(lines))
			lines[x], lines[y] = lines[y], lines[x]
			s = strings.Join(lines, "")
		} else {
			s = turned(s, upTo)
		}
		p, at, e := asm.Parse(s)
		q, place, f := parsed(s)
		if at != place || e != f || !reflect.DeepEqual(p, q) {
			t.Fatalf("Parse(%q): %v, %d, %v, not %v, %d, %v", s, p, at, e, q, place, f)
		}
		seen[e]++
		if e != api.OK {
			continue
		}
		if r, e := asm.Print(p); e != api.OK || r != s {
			t.Fatalf("Parse(%q): printed, it is %q, %v", s, r, e)
		}
	}
	for _, e := range []api.Errno{api.OK, api.ErrForm, api.ErrLong, api.ErrName, api.ErrRange} {
		if seen[e] < 100 {
			t.Errorf("%v was answered %d times", e, seen[e])
		}
	}
}

func TestP34Instructions(t *testing.T) {
	of := map[string]api.Instr{}
	every(func(_ string, i api.Instr) {
		s, e := asm.Line(i)
		if e != api.OK {
			t.Fatalf("Line(%v): %v", i, e)
		}
		j, e := asm.Read(s)
		if e != api.OK || i != j {
			t.Fatalf("Read(Line(%v)): %v, %v", i, j, e)
		}
		if j, ok := of[s]; ok && i != j {
			t.Fatalf("%v and %v have the same text", i, j)
		}
		of[s] = i
		for at := range len(s) + 1 {
			if j, e := asm.Read(s[:at] + " " + s[at:]); e == api.OK {
				t.Fatalf("%q, with a blank put in at %d: %v", s, at, j)
			}
		}
	})
}

func TestP34Programs(t *testing.T) {
	upTo, some := numbers(), all()
	for range 300 {
		p := program(upTo, some)
		s, e := asm.Print(p)
		if e != api.OK {
			t.Fatalf("Print(%v): %v", p, e)
		}
		q, at, e := asm.Parse(s)
		if e != api.OK || at != 0 || !code.Same(p, q) || !reflect.DeepEqual(p, q) {
			t.Fatalf("Parse(Print(%v)): %v, %d, %v", p, q, at, e)
		}
		if r, e := asm.Print(q); e != api.OK || r != s {
			t.Fatalf("Print(Parse(%q)): %q, %v", s, r, e)
		}
		for at := range len(s) + 1 {
			if _, _, e := asm.Parse(s[:at] + " " + s[at:]); e == api.OK {
				t.Fatalf("%q, with a blank put in at %d, is read", s, at)
			}
		}
	}
}

// TestMemory holds what is handed in, and what lies behind its length, against what it was (R2).
func TestMemory(t *testing.T) {
	p := api.Program{Funcs: make([]api.Func, 2, 4)}
	for k := range p.Funcs {
		p.Funcs[k] = api.Func{Needs: 9, Code: append(make([]api.Instr, 0, 8), returns(3)...)}
	}
	was := full(2, 3)
	was.Funcs[0].Needs, was.Funcs[1].Needs = 9, 9
	s, e := asm.Print(p)
	if e != api.OK || !reflect.DeepEqual(p, was) || p.Funcs[0].Code[:4][3] != (api.Instr{}) || p.Funcs[:3][2].Needs != 0 {
		t.Error("the program is written into", e)
	}
	// What is answered is the caller's: nothing else sees what is done to it.
	q, _, _ := asm.Parse(s)
	q.Funcs[0].Code = append(q.Funcs[0].Code, api.Instr{Op: api.Cancel})
	q.Funcs[0].Code[0].A = 5
	if !reflect.DeepEqual(q.Funcs[1], was.Funcs[1]) {
		t.Error("two functions share their instructions")
	}
	if r, _, _ := asm.Parse(s); !reflect.DeepEqual(r, was) {
		t.Error("two answers share their functions")
	}
	i, _ := asm.Read("return r3")
	i.A = 4
	if j, _ := asm.Read("return r3"); j.A != 3 {
		t.Error("two answers are one")
	}
}
