package serial_test

import (
	"math"
	"reflect"
	"slices"
	"strconv"
	"strings"
	"testing"

	"peloton/api"
	"peloton/asm"
	"peloton/check"
	"peloton/code"
	"peloton/serial"
)

// plan is the program of functions' texts: instructions with a semicolon between each two, and ahead of them, with a colon, what the function needs, if that is anything.
func plan(funcs ...string) api.Program {
	var b strings.Builder
	for k, text := range funcs {
		needs, instrs, is := strings.Cut(text, ": ")
		if !is {
			needs, instrs = "0", text
		}
		b.WriteString("func " + strconv.Itoa(k) + " needs " + needs + "\n" + strings.ReplaceAll(instrs, "; ", "\n") + "\n")
	}
	p, at, e := asm.Parse(b.String())
	if e != api.OK {
		panic("line " + strconv.Itoa(at) + " of\n" + b.String())
	}
	return p
}

// repeat is the text of n times the same instruction, with a semicolon behind each.
func repeat(n int, line string) string { return strings.Repeat(line+"; ", n) }

// root is the row of the first task.
func root(kind int, v int64, steps int, closes string) api.Row {
	return api.Row{Parent: -1, Kind: kind, V: v, Steps: steps, Closes: closes}
}

// row is the row of a task that was forked by the one of row parent, in scope in of that one's.
func row(parent, in, f, kind int, v int64, steps int, closes string) api.Row {
	return api.Row{Parent: parent, In: in, Func: f, Kind: kind, V: v, Steps: steps, Closes: closes}
}

const much = 5000 // fuel that is enough for all that is written out here

// tells holds what Run tells of a program against the rows that it should.
func tells(t *testing.T, p api.Program, want ...api.Row) {
	t.Helper()
	took := 0
	for _, r := range want {
		took += r.Steps
	}
	for _, fuel := range []int{took, took + 1, much, api.MaxFuel} {
		if got, n, e := serial.Run(p, fuel); !slices.Equal(got, want) || n != took || e != api.OK {
			t.Errorf("Run of %v, with fuel %d: %v, %d, %v; not %v, %d", p, fuel, got, n, e, want, took)
		}
	}
	refuses(t, p, took-1, api.ErrFuel)
}

// refuses holds what Run answers against an error.
func refuses(t *testing.T, p api.Program, fuel int, want api.Errno) {
	t.Helper()
	if got, n, e := serial.Run(p, fuel); len(got) != 0 || n != 0 || e != want {
		t.Errorf("Run of %v, with fuel %d: %v, %d, %v; not %v", p, fuel, got, n, e, want)
	}
}

// TestP61Examples is the chapter's own examples.
func TestP61Examples(t *testing.T) {
	tells(t, plan("fork h1 f1; join r0 h1; return r0", "const r2 5; return r2"),
		root(api.Value, 5, 3, ""), row(0, 0, 1, api.Value, 5, 2, ""))
	tells(t, plan("open 0; cancel; fork h1 f1; close r3; return r3", "const r2 5; return r2"),
		root(api.Value, 1, 5, "1"), row(0, 1, 1, api.Cancelled, 0, 0, ""))
}

// TestP61Plain lets instructions do what concerns one task alone.
func TestP61Plain(t *testing.T) {
	for text, want := range map[string]api.Row{
		"return r0":                                root(api.Value, 0, 1, ""),
		"panic r0":                                 root(api.Panicked, 0, 1, ""),
		"const r7 -9; return r7":                   root(api.Value, -9, 2, ""),
		"const r7 -9; panic r7":                    root(api.Panicked, -9, 2, ""),
		"const r1 4; move r2 r1; return r2":        root(api.Value, 4, 3, ""),
		"const r1 4; add r1 r1 r1; return r1":      root(api.Value, 8, 3, ""),
		"const r1 4; sub r0 r0 r1; return r0":      root(api.Value, -4, 3, ""),
		"const r1 4; mul r1 r1 r1; return r1":      root(api.Value, 16, 3, ""),
		"const r1 4; less r0 r0 r1; return r0":     root(api.Value, 1, 3, ""),
		"const r1 4; less r1 r1 r0; return r1":     root(api.Value, 0, 3, ""),
		"check; check; return r0":                  root(api.Value, 0, 3, ""),
		"const r1 4; jump 3; panic r1; panic r0":   root(api.Panicked, 0, 3, ""),
		"if r0 2; panic r0; return r0":             root(api.Panicked, 0, 2, ""),
		"const r0 1; if r0 3; panic r0; return r0": root(api.Value, 1, 3, ""),
		"const r1 3; const r2 -1; add r3 r3 r1; add r1 r1 r2; if r1 2; return r3":                root(api.Value, 6, 12, ""),
		"const r1 2147483647; mul r1 r1 r1; add r1 r1 r1; add r1 r1 r1; add r1 r1 r1; return r1": root(api.Value, -34359738360, 6, ""),
	} {
		tells(t, plan(text), want)
	}
}

// TestP61Fork lets tasks be made, one behind the other, each done to its end at once.
func TestP61Fork(t *testing.T) {
	// what a task is made of, and hands on: registers, and handles that are needed
	tells(t, plan("const r1 6; fork h0 f1; const r1 7; fork h7 f2; join r2 h7; return r2", "const r2 8; return r1", "1: join r3 h0; add r1 r1 r3; return r1"),
		root(api.Value, 13, 6, ""), row(0, 0, 1, api.Value, 6, 2, ""), row(0, 0, 2, api.Value, 13, 3, ""))
	// registers of who is forked are its own
	tells(t, plan("const r1 6; fork h0 f1; return r1", "const r1 9; return r1"),
		root(api.Value, 6, 3, ""), row(0, 0, 1, api.Value, 9, 2, ""))
	// rows stand in the order in which tasks were made, not in that in which they ended
	tells(t, plan("fork h0 f1; fork h1 f2; return r0", "fork h0 f2; fork h1 f3; return r0", "fork h0 f3; return r0", "return r0"),
		root(api.Value, 0, 3, ""), row(0, 0, 1, api.Value, 0, 3, ""), row(1, 0, 2, api.Value, 0, 2, ""), row(2, 0, 3, api.Value, 0, 1, ""),
		row(1, 0, 3, api.Value, 0, 1, ""), row(0, 0, 2, api.Value, 0, 2, ""), row(5, 0, 3, api.Value, 0, 1, ""))
	// a handle is that of the fork that came last
	tells(t, plan("const r1 1; fork h0 f1; const r1 2; fork h0 f1; join r3 h0; join r4 h0; add r3 r3 r4; return r3", "return r1"),
		root(api.Value, 4, 8, ""), row(0, 0, 1, api.Value, 1, 1, ""), row(0, 0, 1, api.Value, 2, 1, ""))
	// a handle of another one's future is handed on
	tells(t, plan("const r1 5; fork h3 f1; fork h3 f2; join r0 h3; return r0", "return r1", "8: fork h4 f3; join r0 h4; return r0", "8: join r5 h3; return r5"),
		root(api.Value, 5, 5, ""), row(0, 0, 1, api.Value, 5, 1, ""), row(0, 0, 2, api.Value, 5, 3, ""), row(2, 0, 3, api.Value, 5, 2, ""))
	// a function is forked by itself: 3, 2, 1, 0
	tells(t, plan("const r1 3; const r2 -1; fork h0 f1; join r0 h0; return r0", "if r1 2; return r1; add r1 r1 r2; fork h0 f1; join r0 h0; add r0 r0 r1; return r0"),
		root(api.Value, 3, 5, ""), row(0, 0, 1, api.Value, 3, 6, ""), row(1, 0, 1, api.Value, 1, 6, ""), row(2, 0, 1, api.Value, 0, 6, ""), row(3, 0, 1, api.Value, 0, 2, ""))
}

// TestP61Join lets what a task came to be joined, and tried.
func TestP61Join(t *testing.T) {
	tells(t, plan("fork h2 f1; join r1 h2; return r1", "const r0 -7; return r0"),
		root(api.Value, -7, 3, ""), row(0, 0, 1, api.Value, -7, 2, ""))
	tells(t, plan("fork h2 f1; join r1 h2; return r1", "const r0 -7; panic r0"),
		root(api.Panicked, -7, 2, ""), row(0, 0, 1, api.Panicked, -7, 2, ""))
	tells(t, plan("open 0; cancel; fork h2 f1; close r0; join r1 h2; return r1", "const r0 -7; panic r0"),
		root(api.Panicked, -1, 5, "1"), row(0, 1, 1, api.Cancelled, 0, 0, ""))
	// a panic that nobody joins is passed on to nobody; one that is joined, from each to the one that forked it
	tells(t, plan("fork h0 f1; return r0", "const r1 3; panic r1"),
		root(api.Value, 0, 2, ""), row(0, 0, 1, api.Panicked, 3, 2, ""))
	tells(t, plan("fork h0 f1; join r0 h0; return r0", "fork h0 f2; join r0 h0; return r0", "const r1 3; panic r1"),
		root(api.Panicked, 3, 2, ""), row(0, 0, 1, api.Panicked, 3, 2, ""), row(1, 0, 2, api.Panicked, 3, 2, ""))
	// a try: register A what it came to, register B how
	for text, want := range map[string][3]int64{ // of the task, its kind; and what is in the two registers
		"const r0 9; return r0": {api.Value, 9, 0},
		"const r0 9; panic r0":  {api.Panicked, 9, 1},
	} {
		task := row(0, 0, 1, int(want[0]), 9, 2, "")
		tells(t, plan("const r2 4; fork h7 f1; try r1 r2 h7; return r1", text), root(api.Value, want[1], 4, ""), task)
		tells(t, plan("const r2 4; fork h7 f1; try r1 r2 h7; return r2", text), root(api.Value, want[2], 4, ""), task)
	}
	lost := "const r1 4; open 0; cancel; fork h7 f1; close r3; try r1 r2 h7; return r"
	tells(t, plan(lost+"1", "panic r0"), root(api.Value, 0, 7, "1"), row(0, 1, 1, api.Cancelled, 0, 0, ""))
	tells(t, plan(lost+"2", "panic r0"), root(api.Value, 2, 7, "1"), row(0, 1, 1, api.Cancelled, 0, 0, ""))
	// register C's handle, not that of B
	tells(t, plan("const r1 1; fork h1 f1; const r1 2; fork h2 f1; try r0 r1 h2; return r0", "return r1"),
		root(api.Value, 2, 6, ""), row(0, 0, 1, api.Value, 1, 1, ""), row(0, 0, 1, api.Value, 2, 1, ""))
}

// TestP61Scopes lets tasks be made in scopes, which are numbered for each task.
func TestP61Scopes(t *testing.T) {
	leaf := "return r0"
	in := func(in int) api.Row { return row(0, in, 1, api.Value, 0, 1, "") }
	tells(t, plan("fork h0 f1; open 0; fork h0 f1; close r0; fork h0 f1; open 0; fork h0 f1; close r0; return r0", leaf),
		root(api.Value, 0, 9, "00"), in(0), in(1), in(0), in(2))
	tells(t, plan("open 0; open 0; fork h0 f1; close r0; fork h0 f1; open 0; open 0; fork h0 f1; close r0; close r0; fork h0 f1; close r0; fork h0 f1; return r0", leaf),
		root(api.Value, 0, 14, "0000"), in(2), in(1), in(4), in(1), in(0))
	// each task's are numbered from 0 on; what is told of them is in the order in which they were closed
	tells(t, plan("open 0; open 0; fork h0 f1; close r0; cancel; close r0; return r0", "fork h0 f2; open 0; fork h0 f2; cancel; close r0; open 0; fork h0 f2; close r0; return r0", leaf),
		root(api.Value, 1, 7, "01"), row(0, 2, 1, api.Value, 0, 9, "10"), row(1, 0, 2, api.Value, 0, 1, ""), row(1, 1, 2, api.Value, 0, 1, ""), row(1, 2, 2, api.Value, 1, 1, ""))
	// they are numbered on as one goes round
	tells(t, plan("const r1 3; const r2 -1; open 0; fork h0 f1; close r0; add r1 r1 r2; if r1 2; return r0", leaf),
		root(api.Value, 0, 18, "000"), row(0, 1, 1, api.Value, 0, 1, ""), row(0, 2, 1, api.Value, 0, 1, ""), row(0, 3, 1, api.Value, 0, 1, ""))
	// a time never comes to an end; who panics leaves scopes open
	tells(t, plan("open 1; fork h0 f1; check; close r0; open 65535; open 1; close r0; const r0 3; panic r0", leaf),
		root(api.Panicked, 3, 9, "00"), row(0, 1, 1, api.Value, 0, 1, ""))
	tells(t, plan("open 0; fork h0 f1; open 0; cancel; close r1; join r0 h0; close r1; return r1", "const r0 3; open 0; panic r0"),
		root(api.Panicked, 3, 6, "1"), row(0, 1, 1, api.Panicked, 3, 3, ""))
}

// TestP61Cancel lets scopes be asked to be cancelled.
func TestP61Cancel(t *testing.T) {
	value := func(in int) api.Row { return row(0, in, 1, api.Value, 0, 1, "") }
	lost := func(in int) api.Row { return row(0, in, 1, api.Cancelled, 0, 0, "") }
	// who is done is done; who comes then is not; and behind the scope nobody is cancelled
	tells(t, plan("open 0; fork h0 f1; cancel; fork h0 f1; cancel; close r1; fork h0 f1; return r1", "return r0"),
		root(api.Value, 1, 8, "1"), value(1), row(0, 1, 1, api.Cancelled, 0, 0, ""), row(0, 0, 1, api.Value, 0, 1, ""))
	// it is the innermost one alone that is asked: neither the one around it, nor the next one
	tells(t, plan("open 0; open 0; cancel; fork h0 f1; close r0; fork h0 f1; open 0; fork h0 f1; close r0; close r0; const r0 0; return r0", "return r0"),
		root(api.Value, 0, 12, "100"), lost(2), row(0, 1, 1, api.Value, 1, 1, ""), row(0, 3, 1, api.Value, 1, 1, ""))
	// what is in one that was asked is cancelled as well, but was not asked itself
	tells(t, plan("open 0; cancel; open 0; fork h0 f1; open 0; fork h0 f1; close r1; close r2; close r3; fork h0 f1; return r2", "return r0"),
		root(api.Value, 0, 11, "001"), lost(2), lost(3), value(0))
	// who is in none of its own goes on at each point
	tells(t, plan("open 0; cancel; check; jump 4; if r0 5; open 0; fork h0 f1; try r1 r2 h0; close r1; close r1; return r2", "return r0"),
		root(api.Value, 2, 11, "01"), lost(2))
	// whatever the first instruction is, it is not done
	for _, text := range []string{"return r0", "panic r0", "const r0 5; return r0", "check; return r0", "open 0; close r0; return r0", "fork h0 f1; return r0", "jump 0", "sub r0 r0 r0; panic r0"} {
		tells(t, plan("open 0; cancel; fork h0 f1; close r1; return r1", text), root(api.Value, 1, 5, "1"), lost(1))
	}
	// a task that was forked cancels what is its own, and nothing of the one that forked it
	tells(t, plan("open 0; fork h0 f1; fork h1 f2; close r1; return r1", "open 0; cancel; fork h0 f2; close r1; return r1", "return r1"),
		root(api.Value, 0, 5, "0"), row(0, 1, 1, api.Value, 1, 5, "1"), row(1, 1, 2, api.Cancelled, 0, 0, ""), row(0, 1, 2, api.Value, 0, 1, ""))
}

// TestP61Refused hands in what may not be.
func TestP61Refused(t *testing.T) {
	fine := plan("return r0")
	odd := []int{-1, -2, api.MaxFuel + 1, math.MinInt, math.MaxInt, 1 << 32}
	for _, fuel := range odd {
		refuses(t, fine, fuel, api.ErrRange)
	}
	for _, p := range []api.Program{
		{},
		{Funcs: []api.Func{{}}},
		{Funcs: make([]api.Func, 33)},
		{Funcs: []api.Func{{Code: []api.Instr{{Op: api.Ops}}}}},
		{Funcs: []api.Func{{Code: []api.Instr{{Op: -1}}}}},
		{Funcs: []api.Func{{Code: []api.Instr{{Op: api.Return, A: 8}}}}},
		{Funcs: []api.Func{{Needs: 1, Code: fine.Funcs[0].Code}}},
		{Funcs: []api.Func{{Needs: -1, Code: fine.Funcs[0].Code}}},
		plan("check"),
		plan("join r0 h0; return r0"),
		plan("try r0 r0 h0; return r0"),
		plan("open 0; return r0"),
		plan("close r0; return r0"),
		plan("cancel; return r0"),
		plan("jump 1"),
		plan("if r0 9; return r0"),
		plan("fork h0 f1; return r0"),
		plan("fork h0 f1; return r0", "1: return r0"),
		plan("return r0", "return r0; close r0; return r0"), // where nobody ever comes
	} {
		for _, fuel := range append(odd, 0, 1, much, api.MaxFuel) {
			refuses(t, p, fuel, api.ErrPlan)
		}
	}
}

// TestP61Deep lets scopes lie in one another as deep as they may, and deeper.
func TestP61Deep(t *testing.T) {
	opens := func(n int, in string) string { return repeat(n, "open 0") + in + repeat(n, "close r0") + "return r0" }
	tells(t, plan(opens(31, "")), root(api.Value, 0, 63, strings.Repeat("0", 31)))
	refuses(t, plan(opens(32, "")), much, api.ErrDeep)
	// the own scope of who is forked is one, too
	leaf := row(0, 30, 1, api.Value, 0, 1, "")
	tells(t, plan(opens(30, "fork h0 f1; "), "return r0"), root(api.Value, 0, 62, strings.Repeat("0", 30)), leaf)
	refuses(t, plan(opens(31, "fork h0 f1; "), "return r0"), much, api.ErrDeep)
	tells(t, plan(opens(29, "fork h0 f1; "), opens(1, "")), root(api.Value, 0, 60, strings.Repeat("0", 29)), row(0, 29, 1, api.Value, 0, 3, "0"))
	refuses(t, plan(opens(30, "fork h0 f1; "), opens(1, "")), much, api.ErrDeep)
	// tasks that fork one another: register 1 tells how many more; the last one has all others' scopes around it
	down := func(n int) api.Program {
		return plan("const r1 "+strconv.Itoa(n)+"; const r2 -1; fork h0 f1; return r0", "add r1 r1 r2; if r1 3; return r0; fork h0 f1; return r0")
	}
	rows := []api.Row{root(api.Value, 0, 4, "")}
	for n := range 30 {
		rows = append(rows, row(n, 0, 1, api.Value, 0, 4, ""))
	}
	tells(t, down(31), append(rows, row(30, 0, 1, api.Value, 0, 3, ""))...)
	refuses(t, down(32), much, api.ErrDeep)
	// it is told ahead of the instruction: so there is fuel for all ahead of it, and for it; and of who is cancelled all the same
	for text, took := range map[string]int{opens(32, ""): 31, opens(31, "fork h0 f0; "): 31, opens(31, "cancel; fork h0 f0; "): 32, opens(31, "cancel; open 0; close r0; "): 32} {
		refuses(t, plan(text), took, api.ErrFuel)
		refuses(t, plan(text), took+1, api.ErrDeep)
	}
	// what is not done is not too deep; what is closed is gone
	tells(t, plan("jump 2; panic r0; return r0", "fork h0 f1; "+opens(40, "")), root(api.Value, 0, 2, ""))
	tells(t, plan(repeat(40, "open 0; close r0")+"return r0"), root(api.Value, 0, 81, strings.Repeat("0", 40)))
	tells(t, plan("open 0; cancel; fork h0 f1; close r0; return r0", "fork h0 f1; return r0"), root(api.Value, 1, 5, "1"), row(0, 1, 1, api.Cancelled, 0, 0, ""))
}

// TestP61Fuel goes as far as there is fuel.
func TestP61Fuel(t *testing.T) {
	refuses(t, plan("return r0"), 0, api.ErrFuel)
	for _, text := range []string{"jump 0", "check; jump 0", "open 0; close r0; jump 0", "if r0 0; jump 0"} {
		for _, fuel := range []int{0, 1, 2, 100, api.MaxFuel} {
			refuses(t, plan(text), fuel, api.ErrFuel)
		}
	}
	// steps are all tasks' together; who is cancelled takes none
	p := plan("open 0; fork h0 f1; cancel; fork h0 f1; close r0; return r0", "check; return r0")
	for fuel := range 8 {
		refuses(t, p, fuel, api.ErrFuel)
	}
	tells(t, p, root(api.Value, 1, 6, "1"), row(0, 1, 1, api.Value, 0, 2, ""), row(0, 1, 1, api.Cancelled, 0, 0, ""))
	// all the fuel that there may be
	for end, e := range map[string]api.Errno{"return r1": api.OK, "check; return r1": api.ErrFuel} {
		p := plan("const r1 524286; const r2 -1; add r1 r1 r2; if r1 2; check; " + end)
		got, n, was := serial.Run(p, api.MaxFuel)
		if was != e || e == api.OK && (n != api.MaxFuel || !slices.Equal(got, []api.Row{root(api.Value, 0, api.MaxFuel, "")})) {
			t.Error(end, got, n, was)
		}
	}
}

// TestP61Many has as many rows, and as long a row, as fuel lets there be.
func TestP61Many(t *testing.T) {
	const n = 262143
	round := "const r1 " + strconv.Itoa(n) + "; const r2 -1; BODY; add r1 r1 r2; if r1 2; return r3"
	got, took, e := serial.Run(plan(strings.Replace(round, "BODY", "open 0; close r3", 1)), api.MaxFuel)
	if want := root(api.Value, 0, 4*n+3, strings.Repeat("0", n)); e != api.OK || took != want.Steps || len(got) != 1 || got[0] != want {
		t.Error(len(got), took, e)
	}
	got, took, e = serial.Run(plan(strings.Replace(round, "BODY", "fork h0 f1", 1), "return r1"), api.MaxFuel)
	if e != api.OK || took != 4*n+3 || len(got) != n+1 || got[0] != root(api.Value, 0, 3*n+3, "") {
		t.Fatal(len(got), took, e)
	}
	for k, r := range got[1:] {
		if r != row(0, 0, 1, api.Value, int64(n-k), 1, "") {
			t.Fatal(k, r)
		}
	}
}

// place is a scope: whose it is (a row; -1: the world's), and which one of that one's.
type place struct{ row, k int }

// reading is a program that is done as the chapter's words have it.
type reading struct {
	p           api.Program
	fuel, steps int
	rows        []api.Row
	around      map[place]place
	asked       map[place]bool
}

// doing is a task that is made in a scope, and the scopes of its own that are open.
type doing struct {
	at, pc, made int
	in           place
	r            [8]int64
	h            [8]int
	open         []place
}

// read is what the test's own reading of the chapter makes of a program that may be.
func read(p api.Program, fuel int) ([]api.Row, int, api.Errno) {
	m := &reading{p: p, fuel: fuel, around: map[place]place{}, asked: map[place]bool{}}
	if e := m.task(0, doing{in: place{-1, 0}}); e != api.OK {
		return nil, 0, e
	}
	return m.rows, m.steps, api.OK
}

// chain is a scope, and all around it: the world is the last one.
func (m *reading) chain(s place) []place {
	l := []place{s}
	for s.row >= 0 {
		s = m.around[s]
		l = append(l, s)
	}
	return l
}

// stops tells whether a task is cancelled ahead of an instruction.
func (m *reading) stops(d doing, op int) bool {
	if m.rows[d.at].Steps > 0 && !code.Point(op) {
		return false
	}
	return slices.ContainsFunc(m.chain(d.in), func(s place) bool { return m.asked[s] })
}

// ahead tells what is wrong ahead of an instruction in a scope.
func (m *reading) ahead(op int, inner place) api.Errno {
	if m.steps >= m.fuel {
		return api.ErrFuel
	}
	if (op == api.Fork || op == api.Open) && len(m.chain(inner)) > 32 {
		return api.ErrDeep
	}
	return api.OK
}

// task does a task of a function.
func (m *reading) task(f int, d doing) api.Errno {
	d.at = len(m.rows)
	m.rows = append(m.rows, api.Row{Parent: d.in.row, In: d.in.k, Func: f, Kind: api.Running})
	d.open = []place{{d.at, 0}}
	m.around[d.open[0]] = d.in
	for m.rows[d.at].Kind == api.Running {
		i := m.p.Funcs[f].Code[d.pc]
		if m.stops(d, i.Op) {
			m.rows[d.at].Kind = api.Cancelled
			break
		}
		if e := m.ahead(i.Op, d.open[len(d.open)-1]); e != api.OK {
			return e
		}
		m.steps++
		m.rows[d.at].Steps++
		d.pc++
		if e := m.does(&d, i); e != api.OK {
			return e
		}
	}
	return api.OK
}

// does does an instruction.
func (m *reading) does(d *doing, i api.Instr) api.Errno {
	row := &m.rows[d.at]
	inner := d.open[len(d.open)-1]
	switch i.Op {
	case api.Jump:
		d.pc = i.N
	case api.If:
		if d.r[i.A] != 0 {
			d.pc = i.N
		}
	case api.Fork:
		kid := doing{in: inner, r: d.r}
		for k, of := range d.h {
			if m.p.Funcs[i.N].Needs>>k%2 == 1 {
				kid.h[k] = of
			}
		}
		d.h[i.A] = len(m.rows)
		return m.task(i.N, kid)
	case api.Join:
		of := m.rows[d.h[i.B]]
		if of.Kind == api.Value {
			d.r[i.A] = of.V
			break
		}
		row.Kind, row.V = api.Panicked, map[int]int64{api.Panicked: of.V, api.Cancelled: -1}[of.Kind]
	case api.Try:
		of := m.rows[d.h[i.C]]
		d.r[i.A] = of.V
		d.r[i.B] = map[int]int64{api.Value: 0, api.Panicked: 1, api.Cancelled: 2}[of.Kind]
	case api.Open:
		d.made++
		d.open = append(d.open, place{d.at, d.made})
		m.around[place{d.at, d.made}] = inner
	case api.Close:
		d.r[i.A] = map[bool]int64{true: 1}[m.asked[inner]]
		row.Closes += strconv.FormatInt(d.r[i.A], 10)
		d.open = d.open[:len(d.open)-1]
	case api.Cancel:
		m.asked[inner] = true
	case api.Panic:
		row.Kind, row.V = api.Panicked, d.r[i.A]
	case api.Return:
		row.Kind, row.V = api.Value, d.r[i.A]
	case api.Check:
	default:
		d.r[i.A] = number(i, d.r)
	}
	return api.OK
}

// number is what an instruction puts into register A, of those that look at registers alone.
func number(i api.Instr, r [8]int64) int64 {
	x, y := r[i.B], r[i.C]
	switch i.Op {
	case api.Const:
		return int64(i.N)
	case api.Move:
		return x
	case api.Add:
		return x + y
	case api.Sub:
		return x - y
	case api.Mul:
		return x * y
	}
	if x < y {
		return 1
	}
	return 0
}

// numbers tells the same row of numbers each time: of n, the next one is from 0 to n less 1.
func numbers() func(n int) int {
	seed := uint32(11)
	return func(n int) int {
		seed = seed*1664525 + 1013904223
		return int(seed>>8) % n
	}
}

// writer writes the instructions of function k of those that need these handles.
type writer struct {
	upTo   func(int) int
	needs  []int
	k      int
	plain  bool // nothing is to be cancelled
	code   []api.Instr
	held   int
	depth  int
	rounds bool // one goes round already
}

func (w *writer) put(op, a, b, c, n int) {
	w.code = append(w.code, api.Instr{Op: op, A: a, B: b, C: c, N: n})
}

// register is one of those that do not count rounds.
func (w *writer) register() int { return w.upTo(6) }

// handle is one that is held.
func (w *writer) handle() int {
	for {
		if h := w.upTo(8); w.held>>h&1 == 1 {
			return h
		}
	}
}

// fork is a fork of a function: of one that stands behind this one, or, now and then, of any.
func (w *writer) fork() {
	f := w.k + 1 + w.upTo(3)
	if w.upTo(12) == 0 {
		f = w.upTo(len(w.needs))
	}
	if f >= len(w.needs) || w.needs[f]&^w.held != 0 {
		return
	}
	h := w.upTo(8)
	w.put(api.Fork, h, 0, 0, f)
	w.held |= 1 << h
}

// within is instructions in a scope, of which some are nothing but for a cancel.
func (w *writer) within(n int) {
	ticks := 0
	if !w.plain {
		ticks = w.upTo(3)
	}
	w.put(api.Open, 0, 0, 0, ticks)
	w.depth++
	w.block(n)
	if !w.plain && w.upTo(2) == 0 {
		w.put(api.Cancel, 0, 0, 0, 0)
		w.block(n)
	}
	w.put(api.Close, w.register(), 0, 0, 0)
	w.depth--
}

// past is instructions over which one goes, always or just if a register is not 0: what is forked there need not be held behind them.
func (w *writer) past(n int) {
	at, held := len(w.code), w.held
	if w.upTo(4) == 0 {
		w.put(api.Jump, 0, 0, 0, 0)
	} else {
		w.put(api.If, w.register(), 0, 0, 0)
	}
	w.block(n)
	if w.upTo(3) == 0 {
		w.put(api.Panic, w.register(), 0, 0, 0)
	}
	w.code[at].N, w.held = len(w.code), held
}

// round is instructions that are done some times.
func (w *writer) round(n int) {
	if w.rounds {
		return
	}
	w.rounds = true
	w.put(api.Const, 7, 0, 0, 1+w.upTo(3))
	w.put(api.Const, 6, 0, 0, -1)
	at := len(w.code)
	w.block(n)
	w.put(api.Add, 7, 7, 6, 0)
	w.put(api.If, 7, 0, 0, at)
	w.rounds = false
}

// block is some instructions, with at most so many in one another.
func (w *writer) block(n int) {
	for range w.upTo(4) {
		switch what := w.upTo(16); {
		case len(w.code) > 90:
			return
		case what < 2:
			w.put(api.Const, w.register(), 0, 0, w.upTo(9)-4)
		case what < 4:
			w.put(api.Add+w.upTo(4), w.register(), w.upTo(8), w.upTo(8), 0)
		case what == 4:
			w.put(api.Move, w.register(), w.upTo(8), 0, 0)
		case what < 8:
			w.fork()
		case what == 8 && w.held != 0:
			w.put(api.Join, w.register(), w.handle(), 0, 0)
		case what < 11 && w.held != 0:
			w.put(api.Try, w.register(), w.register(), w.handle(), 0)
		case what < 13 && n > 0:
			w.within(n - 1)
		case what == 13 && n > 0:
			w.past(n - 1)
		case what == 14 && n > 0:
			w.round(n - 1)
		default:
			w.put(api.Check, 0, 0, 0, 0)
		}
	}
}

// written is a program that is accepted.
func written(upTo func(int) int, plain bool) api.Program {
	needs := []int{0}
	for range 1 + upTo(5) {
		needs = append(needs, []int{0, 0, 1 << upTo(8), 1<<upTo(8) | 1<<upTo(8)}[upTo(4)])
	}
	p := api.Program{}
	for k := range needs {
		w := &writer{upTo: upTo, needs: needs, k: k, plain: plain, held: needs[k]}
		w.block(3)
		w.block(3)
		w.block(3)
		end := api.Return
		if upTo(6) == 0 {
			end = api.Panic
		}
		w.put(end, w.register(), 0, 0, 0)
		p.Funcs = append(p.Funcs, api.Func{Needs: needs[k], Code: w.code})
	}
	return p
}

// some tells programs that are accepted.
func some(t *testing.T, n int, tell func(upTo func(int) int, p api.Program)) {
	t.Helper()
	upTo := numbers()
	for k := range n {
		p := written(upTo, k%4 == 0)
		if !check.Accepts(p) || k%4 == 0 && !check.Plain(p) {
			t.Fatal(check.Program(p), p)
		}
		tell(upTo, p)
	}
}

// TestP61Read holds what Run tells of programs against the test's own reading of the chapter.
func TestP61Read(t *testing.T) {
	seen, kinds, asked := map[api.Errno]int{}, map[int]int{}, 0
	some(t, 12000, func(upTo func(int) int, p api.Program) {
		for _, fuel := range []int{0, upTo(40), upTo(400), 3000} {
			got, n, e := serial.Run(p, fuel)
			want, took, was := read(p, fuel)
			if !slices.Equal(got, want) || n != took || e != was {
				t.Fatalf("Run of %v, with fuel %d: %v, %d, %v; not %v, %d, %v", p, fuel, got, n, e, want, took, was)
			}
			seen[e]++
			for _, r := range got {
				kinds[r.Kind]++
				asked += strings.Count(r.Closes, "1")
			}
		}
	})
	if seen[api.OK] < 1000 || seen[api.ErrFuel] < 1000 || seen[api.ErrDeep] < 100 || asked < 1000 || len(kinds) != 3 || kinds[api.Panicked] < 1000 || kinds[api.Cancelled] < 1000 {
		t.Error("too few of a kind are tried:", seen, kinds, asked)
	}
}

// TestP62Fuel gives as much fuel as it took, and less, and more.
func TestP62Fuel(t *testing.T) {
	some(t, 3000, func(upTo func(int) int, p api.Program) {
		want, took, e := serial.Run(p, 2000)
		if e != api.OK {
			return
		}
		sum := 0
		for _, r := range want {
			sum += r.Steps
		}
		if sum != took {
			t.Fatalf("Run of %v: %d steps, and %d of rows", p, took, sum)
		}
		for _, fuel := range []int{took, took + 1, took + 1 + upTo(100), 2001, api.MaxFuel} {
			if got, n, e := serial.Run(p, fuel); !slices.Equal(got, want) || n != took || e != api.OK {
				t.Fatalf("Run of %v, which takes %d, with fuel %d: %v, %d, %v", p, took, fuel, got, n, e)
			}
		}
		for _, fuel := range []int{0, upTo(took), took - 1} {
			if got, n, e := serial.Run(p, fuel); len(got) != 0 || n != 0 || e != api.ErrFuel {
				t.Fatalf("Run of %v, which takes %d, with fuel %d: %v, %d, %v", p, took, fuel, got, n, e)
			}
		}
	})
}

func TestP62Plain(t *testing.T) {
	plain := 0
	some(t, 4000, func(upTo func(int) int, p api.Program) {
		got, _, e := serial.Run(p, 2000)
		if e != api.OK || !check.Plain(p) {
			return
		}
		plain++
		for _, r := range got {
			if r.Kind == api.Cancelled || strings.Contains(r.Closes, "1") {
				t.Fatalf("Run of %v: %v", p, got)
			}
		}
	})
	if plain < 500 {
		t.Error("too few are plain:", plain)
	}
}

// under is a row and all that is within it, as rows that nobody is around.
func under(rows []api.Row, at int) []api.Row {
	var l []api.Row
	for k, r := range rows[at:] {
		if k > 0 && r.Parent < at {
			break
		}
		r.Parent -= at
		l = append(l, r)
	}
	l[0].Parent, l[0].In = -1, 0
	return l
}

// twice is a first function that puts numbers into registers, and forks another one twice, the second time at the place of the first, or in a scope, and tells a register behind a try.
func twice(upTo func(int) int, f, tell int, scoped bool) api.Func {
	var l []api.Instr
	for k := range 8 {
		l = append(l, api.Instr{Op: api.Const, A: k, N: upTo(9) - 4})
	}
	fork := api.Instr{Op: api.Fork, A: 3, N: f}
	l = append(l, fork)
	if scoped {
		// Nothing but what Close does to a register may be another thing: so it is closed behind the second one.
		l = append(l, api.Instr{Op: api.Open}, fork, api.Instr{Op: api.Close})
	} else {
		l = append(l, fork)
	}
	return api.Func{Code: append(l, api.Instr{Op: api.Try, A: 1, B: 2, C: 3}, api.Instr{Op: api.Return, A: tell})}
}

// TestP62Twice forks a function twice, and tries what came of it.
func TestP62Twice(t *testing.T) {
	kinds := map[int]int{}
	some(t, 6000, func(upTo func(int) int, p api.Program) {
		f, tell, scoped := 1+upTo(len(p.Funcs)-1), 1+upTo(2), upTo(2) == 0
		p.Funcs[f].Needs = 0
		p.Funcs[0] = twice(upTo, f, tell, scoped)
		rows, _, e := serial.Run(p, 2000)
		if e != api.OK { // which may be that it may not be, now that the function needs nothing
			return
		}
		first := under(rows, 1)
		second := under(rows, 1+len(first))
		if !slices.Equal(first, second) || len(rows) != 1+2*len(first) {
			t.Fatalf("Run of %v: %v", p, rows)
		}
		kind := first[0].Kind
		kinds[kind]++
		want := map[int]int64{1: first[0].V, 2: int64(kind - api.Value)}[tell]
		if rows[0].Kind != api.Value || rows[0].V != want {
			t.Fatalf("Run of %v: %v, but register %d is not %d", p, rows, tell, want)
		}
	})
	if kinds[api.Value] < 500 || kinds[api.Panicked] < 100 {
		t.Error("too few of a kind are tried:", kinds)
	}
}

// TestMemory holds what is handed in against what it was, and what is answered against what is answered then (R2, R3).
func TestMemory(t *testing.T) {
	make2 := func() api.Program {
		p := plan("open 3; cancel; fork h1 f1; close r2; fork h1 f1; fork h2 f2; try r0 r1 h2; return r0", "const r2 5; return r2", "2: join r3 h1; panic r3", "return r0")
		p.Funcs[1].Code = append(p.Funcs[1].Code, api.Instr{Op: 50})[:2]
		p.Funcs = p.Funcs[:3]
		return p
	}
	p, q := make2(), make2()
	want, n, e := serial.Run(p, much)
	if e != api.OK || len(want) != 4 {
		t.Fatal(want, n, e)
	}
	kept := slices.Clone(want)
	if !reflect.DeepEqual(p.Funcs[:4], q.Funcs[:4]) || !reflect.DeepEqual(p.Funcs[1].Code[:3], q.Funcs[1].Code[:3]) {
		t.Error("what is handed in is written into")
	}
	clear(want)
	serial.Run(p, 3)
	serial.Run(api.Program{}, 3)
	if got, took, e := serial.Run(p, much); !slices.Equal(got, kept) || took != n || e != api.OK {
		t.Error(got, took, e)
	}
}
