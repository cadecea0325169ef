package fits_test

import (
	"maps"
	"math"
	"reflect"
	"slices"
	"strconv"
	"strings"
	"testing"

	"peloton/api"
	"peloton/asm"
	"peloton/check"
	"peloton/code"
	"peloton/fits"
	"peloton/serial"
	"peloton/table"
)

// plan is the program of functions' texts: instructions with a semicolon between each two, and ahead of them, with a colon, what the function needs, if that is anything.
func plan(funcs ...string) api.Program {
	var b strings.Builder
	for k, text := range funcs {
		needs, instrs, is := strings.Cut(text, ": ")
		if !is {
			needs, instrs = "0", text
		}
		b.WriteString("func " + strconv.Itoa(k) + " needs " + needs + "\n" + strings.ReplaceAll(instrs, "; ", "\n") + "\n")
	}
	p, at, e := asm.Parse(b.String())
	if e != api.OK {
		panic("line " + strconv.Itoa(at) + " of\n" + b.String())
	}
	return p
}

// rows is the table of rows' texts, with a semicolon between each two.
func rows(text string) []api.Row {
	l, at, e := table.Parse(strings.ReplaceAll(text, "; ", "\n") + "\n")
	if e != api.OK {
		panic("row " + strconv.Itoa(at-1) + " of " + text + ": " + e.Error())
	}
	return l
}

// printed is a table's rows' texts.
func printed(l []api.Row) string {
	s, _ := table.Print(l)
	return strings.ReplaceAll(s, "\n", "; ")
}

// listing is a program's text.
func listing(p api.Program) string {
	s, _ := asm.Print(p)
	return s
}

// fine is what at should be, if nothing is wrong.
const fine = -1

// answers holds what Fits and Quiet tell against the rows that should be the first that do not fit, and do not fit quietly (fine: none).
func answers(t *testing.T, p api.Program, l []api.Row, at, quiet int) {
	t.Helper()
	for name, f := range map[string]func(api.Program, []api.Row) (int, api.Errno){"Fits": fits.Fits, "Quiet": fits.Quiet} {
		want, e := at, api.ErrFit
		if name == "Quiet" {
			want = quiet
		}
		if want == fine {
			want, e = 0, api.OK
		}
		if got, was := f(p, l); got != want || was != e {
			t.Errorf("%s of %s\nof\n%s: %d, %v; not %d, %v", name, printed(l), listing(p), got, was, want, e)
		}
	}
}

// refused holds what Fits and Quiet tell against an error.
func refused(t *testing.T, p api.Program, l []api.Row, want api.Errno) {
	t.Helper()
	if at, e := fits.Fits(p, l); at != 0 || e != want {
		t.Errorf("Fits of %v, %v: %d, %v; not %v", p, l, at, e, want)
	}
	if at, e := fits.Quiet(p, l); at != 0 || e != want {
		t.Errorf("Quiet of %v, %v: %d, %v; not %v", p, l, at, e, want)
	}
}

// same is of a table for which Fits and Quiet tell the same: the row that does not fit, or fine.
type same map[string]int

func (all same) hold(t *testing.T, p api.Program) {
	t.Helper()
	for text, at := range all {
		answers(t, p, rows(text), at, at)
	}
}

// two is what Fits, and what Quiet tells.
type two map[string][2]int

func (all two) hold(t *testing.T, p api.Program) {
	t.Helper()
	for text, at := range all {
		answers(t, p, rows(text), at[0], at[1])
	}
}

// TestP81Examples is the chapter's own examples.
func TestP81Examples(t *testing.T) {
	p := plan("fork h1 f1; join r0 h1; return r0", "const r2 5; return r2")
	answers(t, p, rows("- 0 0 running 0 1 -; 0 0 1 pending 0 0 -"), fine, fine)
	for _, p := range []api.Program{p, plan("return r0"), plan("panic r0"), plan("const r0 1; return r0"), plan("open 0; cancel; close r0; return r0"), plan("check; jump 0")} {
		answers(t, p, rows("- 0 0 cancelled 0 0 -"), fine, 0)
	}
}

// TestP81Steps lets a task do as many instructions as there are, and more.
func TestP81Steps(t *testing.T) {
	same{
		"- 0 0 pending 0 0 -":  fine,
		"- 0 0 running 0 0 -":  fine,
		"- 0 0 running 0 1 -":  fine,
		"- 0 0 running 0 2 -":  fine,
		"- 0 0 running 0 3 -":  fine, // it did its Return, and is not told to have come to something
		"- 0 0 running 0 4 -":  0,
		"- 0 0 value 7 3 -":    fine,
		"- 0 0 value 7 2 -":    0,
		"- 0 0 value 7 4 -":    0,
		"- 0 0 value 7 0 -":    0,
		"- 0 0 value 0 0 -":    0,
		"- 0 0 value 0 1 -":    0,
		"- 0 0 value 7 1 -":    0,
		"- 0 0 value 6 3 -":    0,
		"- 0 0 value 0 3 -":    0,
		"- 0 0 panicked 7 3 -": 0,
		"- 0 0 panicked 7 2 -": 0,
		"- 0 0 running 0 3 0":  0,
		"- 0 0 value 7 3 1":    0,
		"- 0 1 value 7 3 -":    0,
		"- 0 1 pending 0 0 -":  0,
		"- 0 31 running 0 0 -": 0,
	}.hold(t, plan("const r1 7; check; return r1", "const r1 7; check; return r1"))
	same{
		"- 0 0 running 0 2 -":        fine,
		"- 0 0 running 0 3 -":        0,
		"- 0 0 panicked 7 2 -":       fine,
		"- 0 0 panicked 7 3 -":       0,
		"- 0 0 panicked 7 1 -":       0,
		"- 0 0 panicked 0 0 -":       0,
		"- 0 0 panicked -1 2 -":      0,
		"- 0 0 value 7 2 -":          0,
		"- 0 0 cancelled 0 2 -":      0,
		"- 0 0 running 0 1048576 -":  0,
		"- 0 0 panicked 7 1048576 -": 0,
	}.hold(t, plan("const r1 7; panic r1; return r1"))
	same{
		"- 0 0 running 0 1048576 -": fine,
		"- 0 0 running 0 1048575 -": fine,
		"- 0 0 value 0 1048576 -":   0,
	}.hold(t, plan("add r1 r1 r0; jump 0"))
	same{ // a loop of two rounds
		"- 0 0 running 0 5 -": fine,
		"- 0 0 running 0 7 -": fine,
		"- 0 0 running 0 8 -": 0,
		"- 0 0 value 0 7 -":   fine,
		"- 0 0 value 0 5 -":   0,
		"- 0 0 value 2 7 -":   0,
		"- 0 0 value 1 5 -":   0,
	}.hold(t, plan("const r1 2; const r2 -1; add r1 r1 r2; if r1 2; return r1"))
}

// TestP81Plain lets instructions do what concerns registers, and holds what they tell by what is returned.
func TestP81Plain(t *testing.T) {
	for text, want := range map[string]string{
		"const r7 -9; return r7":                                       "-9 2",
		"const r1 4; move r2 r1; return r2":                            "4 3",
		"const r1 4; add r1 r1 r1; return r1":                          "8 3",
		"const r1 4; sub r0 r0 r1; return r0":                          "-4 3",
		"const r1 4; mul r1 r1 r1; return r1":                          "16 3",
		"const r1 4; less r0 r0 r1; return r0":                         "1 3",
		"const r1 4; less r1 r1 r0; return r1":                         "0 3",
		"const r1 4; jump 3; const r1 5; return r1":                    "4 3",
		"const r1 4; if r0 3; const r1 5; return r1":                   "5 4",
		"const r1 4; if r1 3; const r1 5; return r1":                   "4 3",
		"open 9; check; close r1; const r2 3; add r1 r1 r2; return r1": "3 6",
	} {
		closes := "-"
		if strings.HasPrefix(text, "open") {
			closes = "0"
		}
		l := rows("- 0 0 value " + want + " " + closes)
		answers(t, plan(text), l, fine, fine)
		for _, v := range []int64{-1, 1, math.MaxInt64, math.MinInt64} {
			m := slices.Clone(l)
			m[0].V += v
			answers(t, plan(text), m, 0, 0)
		}
	}
	big := "const r1 2147483647; mul r1 r1 r1; add r1 r1 r1; add r1 r1 r1; add r1 r1 r1; return r1"
	answers(t, plan(big), rows("- 0 0 value -34359738360 6 -"), fine, fine)
}

// TestP81Kids lets forks make kids, one behind the other.
func TestP81Kids(t *testing.T) {
	p := plan("const r1 6; fork h0 f1; const r1 7; fork h7 f2; join r2 h7; return r2", "const r2 8; return r1", "1: join r3 h0; add r1 r1 r3; return r1")
	same{
		"- 0 0 running 0 1 -":                                                                fine,
		"- 0 0 running 0 2 -; 0 0 1 pending 0 0 -":                                           fine,
		"- 0 0 running 0 3 -; 0 0 1 running 0 1 -":                                           fine,
		"- 0 0 running 0 4 -; 0 0 1 pending 0 0 -; 0 0 2 running 0 0 -":                      fine,
		"- 0 0 running 0 4 -; 0 0 1 value 6 2 -; 0 0 2 running 0 3 -":                        fine,
		"- 0 0 value 13 6 -; 0 0 1 value 6 2 -; 0 0 2 value 13 3 -":                          fine,
		"- 0 0 running 0 1 -; 0 0 1 pending 0 0 -":                                           0, // a kid that no fork made
		"- 0 0 running 0 2 -":                                                                0, // a fork that made none
		"- 0 0 running 0 3 -; 0 0 1 pending 0 0 -; 0 0 2 pending 0 0 -":                      0,
		"- 0 0 running 0 4 -; 0 0 1 pending 0 0 -":                                           0,
		"- 0 0 pending 0 0 -":                                                                fine,
		"- 0 0 running 0 0 -; 0 0 1 pending 0 0 -":                                           0,
		"- 0 0 running 0 2 -; 0 0 2 pending 0 0 -":                                           1, // another function
		"- 0 0 running 0 2 -; 0 0 0 pending 0 0 -":                                           1,
		"- 0 0 running 0 2 -; 0 1 1 pending 0 0 -":                                           1, // another scope
		"- 0 0 running 0 2 -; 0 1 1 running 0 1 -":                                           1,
		"- 0 0 running 0 2 -; 0 0 2 running 0 0 -":                                           1,
		"- 0 0 running 0 2 -; 0 0 1 value 7 2 -":                                             1,
		"- 0 0 running 0 4 -; 0 0 2 pending 0 0 -; 0 0 1 pending 0 0 -":                      1,
		"- 0 0 running 0 4 -; 0 0 1 pending 0 0 -; 0 0 2 running 0 1 -":                      2, // it joined one that has not come to something
		"- 0 0 running 0 4 -; 0 0 1 running 0 2 -; 0 0 2 running 0 1 -":                      2,
		"- 0 0 running 0 4 -; 0 0 1 value 6 2 -; 0 0 2 value 12 3 -":                         2,
		"- 0 0 running 0 4 -; 0 0 1 value 5 2 -; 0 0 2 value 12 3 -":                         1,
		"- 0 0 running 0 4 -; 0 0 1 value 6 2 -; 1 0 2 value 13 3 -":                         0,
		"- 0 0 value 13 6 -; 0 0 1 value 6 2 -; 0 0 2 value 12 3 -":                          0,
		"- 0 0 value 12 6 -; 0 0 1 value 6 2 -; 0 0 2 value 12 3 -":                          2,
		"- 0 0 running 0 4 -; 0 0 1 running 0 1 -; 1 0 1 pending 0 0 -; 0 0 2 pending 0 0 -": 1,
	}.hold(t, p)
	// kids of kids: each task's kids are told apart, and stand where a row's number, not the kid's, tells
	same{
		"- 0 0 running 0 2 -; 0 0 1 running 0 2 -; 1 0 2 running 0 0 -; 1 0 3 value 9 2 -; 0 0 2 pending 0 0 -":                        fine,
		"- 0 0 value 5 4 -; 0 0 1 value 9 4 -; 1 0 2 value 5 2 -; 1 0 3 value 9 2 -; 0 0 2 value 5 2 -":                                fine,
		"- 0 0 value 9 4 -; 0 0 1 value 9 4 -; 1 0 2 value 5 2 -; 1 0 3 value 9 2 -; 0 0 2 value 5 2 -":                                0,
		"- 0 0 value 5 4 -; 0 0 1 value 5 4 -; 1 0 2 value 5 2 -; 1 0 3 value 9 2 -; 0 0 2 value 5 2 -":                                1,
		"- 0 0 running 0 2 -; 0 0 1 running 0 2 -; 1 0 2 running 0 0 -; 0 0 3 value 9 2 -; 0 0 2 pending 0 0 -":                        0,
		"- 0 0 running 0 2 -; 0 0 1 running 0 2 -; 1 0 2 running 0 0 -; 1 0 3 running 0 1 -; 3 0 2 pending 0 0 -; 0 0 2 pending 0 0 -": 3,
		"- 0 0 running 0 2 -; 0 0 1 running 0 2 -; 1 0 3 running 0 0 -; 1 0 2 running 0 0 -; 0 0 2 pending 0 0 -":                      2,
		"- 0 0 running 0 2 -; 0 0 1 running 0 1 -; 1 0 2 running 0 0 -; 0 0 2 pending 0 0 -":                                           fine,
		"- 0 0 running 0 2 -; 0 0 1 running 0 1 -; 1 0 2 running 0 0 -; 2 0 2 running 0 0 -; 0 0 2 pending 0 0 -":                      2,
	}.hold(t, plan("fork h0 f1; fork h1 f2; join r0 h1; return r0", "fork h0 f2; fork h1 f3; join r0 h1; return r0", "const r1 5; return r1", "const r0 9; return r0"))
	// a handle that is handed on tells the row of another one's kid
	p = plan("const r1 5; fork h3 f1; fork h3 f2; join r0 h3; return r0", "return r1", "8: fork h4 f3; join r0 h4; return r0", "8: join r5 h3; return r5")
	same{
		"- 0 0 value 5 5 -; 0 0 1 value 5 1 -; 0 0 2 value 5 3 -; 2 0 3 value 5 2 -":         fine,
		"- 0 0 value 5 5 -; 0 0 1 value 5 1 -; 0 0 2 value 5 3 -; 2 0 3 value 4 2 -":         2,
		"- 0 0 running 0 3 -; 0 0 1 value 5 1 -; 0 0 2 running 0 1 -; 2 0 3 value 5 2 -":     fine,
		"- 0 0 running 0 3 -; 0 0 1 value 6 1 -; 0 0 2 running 0 1 -; 2 0 3 value 6 2 -":     1,
		"- 0 0 running 0 3 -; 0 0 1 running 0 1 -; 0 0 2 running 0 1 -; 2 0 3 running 0 0 -": fine,
		"- 0 0 running 0 3 -; 0 0 1 running 0 1 -; 0 0 2 running 0 1 -; 2 0 3 running 0 1 -": 3,
	}.hold(t, p)
}

// TestP81Join lets joins and tries tell what rows have come to.
func TestP81Join(t *testing.T) {
	same{
		"- 0 0 running 0 1 -; 0 0 1 running 0 2 -":     fine,
		"- 0 0 running 0 2 -; 0 0 1 running 0 2 -":     0,
		"- 0 0 running 0 2 -; 0 0 1 pending 0 0 -":     0,
		"- 0 0 panicked -7 2 -; 0 0 1 panicked -7 2 -": fine,
		"- 0 0 running 0 2 -; 0 0 1 panicked -7 2 -":   fine, // it panicked, and is not told to have come to something
		"- 0 0 running 0 3 -; 0 0 1 panicked -7 2 -":   0,
		"- 0 0 panicked -7 3 -; 0 0 1 panicked -7 2 -": 0,
		"- 0 0 panicked -1 2 -; 0 0 1 panicked -7 2 -": 0,
		"- 0 0 panicked 0 2 -; 0 0 1 panicked -7 2 -":  0,
		"- 0 0 panicked -7 1 -; 0 0 1 panicked -7 2 -": 0,
		"- 0 0 value -7 2 -; 0 0 1 panicked -7 2 -":    0,
		"- 0 0 value -7 3 -; 0 0 1 panicked -7 2 -":    0,
		"- 0 0 cancelled 0 2 -; 0 0 1 panicked -7 2 -": 0,
		"- 0 0 value -7 3 -; 0 0 1 value -7 2 -":       1,
		"- 0 0 panicked -8 2 -; 0 0 1 panicked -8 2 -": 1,
		"- 0 0 value 0 3 -; 0 0 1 panicked -7 2 -":     0,
	}.hold(t, plan("fork h2 f1; join r1 h2; return r1", "const r0 -7; panic r0"))
	two{
		"- 0 0 panicked -1 2 -; 0 0 1 cancelled 0 0 -": {fine, 1},
		"- 0 0 panicked 0 2 -; 0 0 1 cancelled 0 0 -":  {0, 0},
		"- 0 0 running 0 2 -; 0 0 1 cancelled 0 0 -":   {fine, 1},
		"- 0 0 running 0 3 -; 0 0 1 cancelled 0 0 -":   {0, 0},
		"- 0 0 cancelled 0 1 -; 0 0 1 cancelled 0 0 -": {fine, 0},
		"- 0 0 cancelled 0 2 -; 0 0 1 cancelled 0 0 -": {0, 0},
		"- 0 0 cancelled 0 1 -; 0 0 1 panicked -7 2 -": {fine, 0},
		"- 0 0 cancelled 0 0 -; 0 0 1 cancelled 0 0 -": {0, 0},
		"- 0 0 cancelled 0 0 -":                        {fine, 0},
		"- 0 0 running 0 1 -; 0 0 1 cancelled 0 1 -":   {1, 1},
	}.hold(t, plan("fork h2 f1; join r1 h2; return r1", "const r0 -7; panic r0"))
	// a try: register A what it came to, register B how
	try := "const r1 4; const r2 4; fork h7 f1; try r1 r2 h7; return r"
	for text, want := range map[string][3]string{ // what it may come to, and what is in the two registers then
		"return r3":             {"value 0 1", "0", "0"},
		"const r0 9; return r0": {"value 9 2", "9", "0"},
		"const r0 9; panic r0":  {"panicked 9 2", "9", "1"},
	} {
		for k := range 2 {
			p := plan(try+strconv.Itoa(k+1), text)
			answers(t, p, rows("- 0 0 value "+want[k+1]+" 5 -; 0 0 1 "+want[0]+" -"), fine, fine)
			answers(t, p, rows("- 0 0 value 4 5 -; 0 0 1 "+want[0]+" -"), 0, 0)
			answers(t, p, rows("- 0 0 running 0 4 -; 0 0 1 "+want[0]+" -"), fine, fine)
			answers(t, p, rows("- 0 0 running 0 4 -; 0 0 1 running 0 1 -"), 0, 0)
			answers(t, p, rows("- 0 0 running 0 4 -; 0 0 1 pending 0 0 -"), 0, 0)
			answers(t, p, rows("- 0 0 value "+strconv.Itoa(2*k)+" 5 -; 0 0 1 cancelled 0 0 -"), fine, 1)
			answers(t, p, rows("- 0 0 value 4 5 -; 0 0 1 cancelled 0 0 -"), 0, 0)
			answers(t, p, rows("- 0 0 value -1 5 -; 0 0 1 cancelled 0 0 -"), 0, 0)
		}
	}
	// the handle of a try is its C, that of a join its B
	p := plan("const r1 1; fork h1 f1; const r1 2; fork h2 f1; try r0 r1 h2; join r1 h1; add r0 r0 r0; add r0 r0 r1; return r0", "return r1")
	same{
		"- 0 0 value 5 9 -; 0 0 1 value 1 1 -; 0 0 1 value 2 1 -":     fine,
		"- 0 0 value 4 9 -; 0 0 1 value 1 1 -; 0 0 1 value 2 1 -":     0,
		"- 0 0 running 0 5 -; 0 0 1 pending 0 0 -; 0 0 1 value 2 1 -": fine,
		"- 0 0 running 0 5 -; 0 0 1 value 1 1 -; 0 0 1 pending 0 0 -": 0,
		"- 0 0 running 0 6 -; 0 0 1 pending 0 0 -; 0 0 1 value 2 1 -": 0,
	}.hold(t, p)
}

// TestP81Closes lets scopes be closed, and told of.
func TestP81Closes(t *testing.T) {
	two{
		"- 0 0 running 0 1 -":   {fine, fine},
		"- 0 0 running 0 2 0":   {fine, fine},
		"- 0 0 running 0 2 1":   {fine, 0},
		"- 0 0 running 0 2 -":   {0, 0},
		"- 0 0 running 0 1 0":   {0, 0},
		"- 0 0 running 0 1 1":   {0, 0},
		"- 0 0 running 0 2 00":  {0, 0},
		"- 0 0 value 0 3 0":     {fine, fine},
		"- 0 0 value 1 3 1":     {fine, 0},
		"- 0 0 value 1 3 0":     {0, 0},
		"- 0 0 value 0 3 1":     {0, 0},
		"- 0 0 value 0 3 -":     {0, 0},
		"- 0 0 value 0 3 00":    {0, 0},
		"- 0 0 value 1 3 10":    {0, 0},
		"- 0 0 cancelled 0 1 -": {fine, 0},
		"- 0 0 cancelled 0 1 0": {0, 0},
		"- 0 0 cancelled 0 2 0": {0, 0}, // the next one is no point
	}.hold(t, plan("open 0; close r1; return r1"))
	two{
		"- 0 0 running 0 2 -":   {fine, fine},
		"- 0 0 running 0 3 1":   {fine, fine},
		"- 0 0 running 0 3 0":   {0, 0},
		"- 0 0 running 0 3 -":   {0, 0},
		"- 0 0 value 1 4 1":     {fine, fine},
		"- 0 0 value 0 4 0":     {0, 0},
		"- 0 0 value 0 4 1":     {0, 0},
		"- 0 0 value 1 4 11":    {0, 0},
		"- 0 0 cancelled 0 2 -": {fine, 0}, // who cancels a scope of its own is not in it
	}.hold(t, plan("open 7; cancel; close r1; return r1"))
	// one in the other, and one behind the other: it is the innermost one that is cancelled, and nobody else's
	two{
		"- 0 0 value 0 10 100":  {fine, fine},
		"- 0 0 value 0 10 110":  {fine, 0},
		"- 0 0 value 1 10 101":  {fine, 0},
		"- 0 0 value 1 10 111":  {fine, 0},
		"- 0 0 value 0 10 000":  {0, 0},
		"- 0 0 value 1 10 001":  {0, 0},
		"- 0 0 value 1 10 011":  {0, 0},
		"- 0 0 running 0 8 10":  {fine, fine},
		"- 0 0 running 0 8 11":  {fine, 0},
		"- 0 0 running 0 8 1":   {0, 0},
		"- 0 0 running 0 8 101": {0, 0},
		"- 0 0 running 0 3 -":   {fine, fine},
		"- 0 0 running 0 4 1":   {fine, fine},
	}.hold(t, plan("open 0; open 0; cancel; close r1; open 0; check; check; close r1; close r1; return r1"))
	two{ // the outer one is cancelled behind the inner one
		"- 0 0 value 1 6 01": {fine, fine},
		"- 0 0 value 1 6 11": {fine, 0},
		"- 0 0 value 0 6 00": {0, 0},
		"- 0 0 value 0 6 10": {0, 0},
	}.hold(t, plan("open 0; open 0; close r1; cancel; close r1; return r1"))
	two{ // the outer one is cancelled ahead of the inner one
		"- 0 0 value 1 6 01": {fine, fine},
		"- 0 0 value 1 6 11": {fine, 0},
		"- 0 0 value 0 6 00": {0, 0},
		"- 0 0 value 0 6 10": {0, 0},
	}.hold(t, plan("open 0; cancel; open 0; close r1; close r1; return r1"))
	// in a loop each round opens another one, of which the second one alone is cancelled
	two{
		"- 0 0 running 0 19 01": {fine, fine},
		"- 0 0 running 0 20 01": {0, 0},
		"- 0 0 value 0 23 010":  {fine, fine},
		"- 0 0 value 1 23 011":  {fine, 0},
		"- 0 0 value 0 23 110":  {fine, 0},
		"- 0 0 value 0 23 000":  {0, 0},
		"- 0 0 value 0 23 100":  {0, 0},
	}.hold(t, plan("const r1 3; const r2 -1; const r3 2; open 0; sub r4 r1 r3; if r4 7; cancel; close r5; add r1 r1 r2; if r1 3; return r5"))
}

// TestP81Cancelled lets a task be cancelled ahead of each instruction.
func TestP81Cancelled(t *testing.T) {
	seen := map[int]bool{}
	for _, text := range []string{
		"const r1 1; return r0", "move r1 r2; return r0", "add r1 r2 r3; return r0", "sub r1 r2 r3; return r0", "mul r1 r2 r3; return r0", "less r1 r2 r3; return r0",
		"jump 1; return r0", "if r1 1; return r0", "fork h0 f1; return r0", "open 0; close r0; return r0", "check; return r0", "panic r0", "return r0",
	} {
		first := plan(text).Funcs[0].Code[0].Op
		seen[first] = true
		at, quiet := fine, 0
		if !code.Point(first) {
			at = 0
		}
		answers(t, plan("const r7 3; "+strings.NewReplacer("jump 1", "jump 2", "if r1 1", "if r1 2").Replace(text), "return r0"), rows("- 0 0 cancelled 0 1 -"), at, quiet)
		answers(t, plan(text, "return r0"), rows("- 0 0 cancelled 0 0 -"), fine, quiet) // ahead of the first one, whatever that is
		answers(t, plan(text, "return r0"), rows("- 0 0 cancelled 0 0 0"), 0, 0)
	}
	for text, l := range map[string]string{
		"fork h0 f1; join r0 h0; return r0":             "- 0 0 cancelled 0 1 -; 0 0 1 value 0 1 -",
		"fork h0 f1; try r0 r1 h0; return r0":           "- 0 0 cancelled 0 1 -; 0 0 1 value 0 1 -",
		"open 0; close r0; return r0":                   "- 0 0 cancelled 0 1 -",
		"open 0; cancel; close r0; return r0":           "- 0 0 cancelled 0 1 -",
		"open 0; open 0; close r0; close r0; return r0": "- 0 0 cancelled 0 3 0",
	} {
		p := plan(text, "return r0")
		next := p.Funcs[0].Code[rows(l)[0].Steps].Op
		seen[next] = true
		at := fine
		if !code.Point(next) {
			at = 0
		}
		answers(t, p, rows(l), at, 0)
	}
	if len(seen) != api.Ops {
		t.Error("too few instructions are tried:", seen)
	}
	// the instruction that is next hangs on registers
	p := plan("const r1 1; if r1 3; check; panic r0")
	answers(t, p, rows("- 0 0 cancelled 0 2 -"), 0, 0)
	answers(t, p, rows("- 0 0 cancelled 0 1 -"), fine, 0)
	p.Funcs[0].Code[0].N = 0
	answers(t, p, rows("- 0 0 cancelled 0 2 -"), fine, 0)
	answers(t, p, rows("- 0 0 cancelled 0 3 -"), 0, 0)
	answers(t, p, rows("- 0 0 cancelled 0 4 -"), 0, 0)
}

// TestP82Cancelled lets tasks be cancelled by those in whose scopes they are, and by nobody.
func TestP82Cancelled(t *testing.T) {
	p := plan("open 0; fork h0 f1; cancel; fork h0 f1; close r1; fork h0 f1; return r1", "check; return r0")
	two{
		"- 0 0 running 0 4 -; 0 1 1 cancelled 0 0 -; 0 1 1 cancelled 0 0 -":                  {fine, fine},
		"- 0 0 running 0 4 -; 0 1 1 value 0 2 -; 0 1 1 value 0 2 -":                          {fine, fine},
		"- 0 0 running 0 3 -; 0 1 1 cancelled 0 0 -":                                         {fine, fine},
		"- 0 0 running 0 2 -; 0 1 1 cancelled 0 0 -":                                         {fine, 1}, // so far it was not asked
		"- 0 0 running 0 3 -; 0 1 1 cancelled 0 1 -":                                         {1, 1},
		"- 0 0 value 1 7 1; 0 1 1 cancelled 0 0 -; 0 1 1 cancelled 0 0 -; 0 0 1 value 0 2 -": {fine, fine},
		"- 0 0 value 1 7 1; 0 1 1 cancelled 0 0 -; 0 1 1 value 0 2 -; 0 0 1 value 0 2 -":     {fine, fine},
		"- 0 0 value 1 7 1; 0 1 1 cancelled 0 0 -; 0 1 1 value 0 2 -; 0 0 1 cancelled 0 0 -": {fine, 3}, // behind the scope
		"- 0 0 cancelled 0 5 1; 0 1 1 cancelled 0 0 -; 0 1 1 value 0 2 -":                    {fine, 0},
		"- 0 0 value 1 7 1; 0 0 1 cancelled 0 0 -; 0 1 1 value 0 2 -; 0 0 1 value 0 2 -":     {1, 1},
		"- 0 0 value 1 7 1; 0 1 1 cancelled 0 0 -; 0 1 1 value 0 2 -; 0 1 1 value 0 2 -":     {3, 3},
	}.hold(t, p)
	// the one around is cancelled, and so is the one within it, but not the next one
	two{
		"- 0 0 value 0 11 010; 0 2 1 cancelled 0 0 -; 0 1 1 cancelled 0 0 -; 0 3 1 value 0 1 -":     {fine, fine},
		"- 0 0 value 0 11 010; 0 2 1 cancelled 0 0 -; 0 1 1 cancelled 0 0 -; 0 3 1 cancelled 0 0 -": {fine, 3},
		"- 0 0 value 0 11 010; 0 2 1 value 0 1 -; 0 1 1 value 0 1 -; 0 3 1 value 0 1 -":             {fine, fine},
		"- 0 0 value 0 11 110; 0 2 1 cancelled 0 0 -; 0 1 1 cancelled 0 0 -; 0 3 1 value 0 1 -":     {fine, 0},
		"- 0 0 running 0 5 0; 0 2 1 cancelled 0 0 -":                                                {fine, fine},
		"- 0 0 running 0 4 0; 0 2 1 cancelled 0 0 -":                                                {fine, 1},
	}.hold(t, plan("open 0; open 0; fork h0 f1; close r1; cancel; fork h0 f1; close r1; open 0; fork h0 f1; close r1; return r1", "return r0"))
	two{ // the one within is, and the one around is not
		"- 0 0 value 0 8 10; 0 2 1 cancelled 0 0 -; 0 1 1 value 0 1 -":     {fine, fine},
		"- 0 0 value 0 8 10; 0 2 1 cancelled 0 0 -; 0 1 1 cancelled 0 0 -": {fine, 2},
		"- 0 0 value 0 8 10; 0 2 1 value 0 1 -; 0 1 1 cancelled 0 0 -":     {fine, 2},
	}.hold(t, plan("open 0; open 0; fork h0 f1; cancel; close r1; fork h0 f1; close r1; return r1", "return r0"))
}

// TestP82Around lets tasks be cancelled by those of whom they are kids' kids.
func TestP82Around(t *testing.T) {
	of := func(end string) api.Program {
		return plan("open 0; fork h0 f1; fork h1 f3; "+end+"; close r1; return r1", "fork h0 f2; open 0; fork h0 f2; cancel; close r2; return r2", "check; return r0", "open 0; fork h0 f2; close r3; return r3")
	}
	two{
		"- 0 0 value 1 6 1; 0 1 1 value 1 6 1; 1 0 2 cancelled 0 0 -; 1 1 2 cancelled 0 0 -; 0 1 3 value 0 4 0; 4 1 2 cancelled 0 0 -": {fine, fine},
		"- 0 0 value 1 6 1; 0 1 1 value 1 6 1; 1 0 2 cancelled 0 0 -; 1 1 2 value 0 2 -; 0 1 3 cancelled 0 3 0; 4 1 2 cancelled 0 0 -": {4, 4}, // no point
		"- 0 0 value 1 6 1; 0 1 1 value 1 6 1; 1 0 2 cancelled 0 0 -; 1 1 2 value 0 2 -; 0 1 3 cancelled 0 0 -":                        {fine, fine},
		"- 0 0 value 1 6 1; 0 1 1 cancelled 0 3 -; 1 0 2 cancelled 0 0 -; 1 1 2 cancelled 0 0 -; 0 1 3 cancelled 0 0 -":                {1, 1},
		"- 0 0 value 1 6 1; 0 1 1 cancelled 0 1 -; 1 0 2 cancelled 0 0 -; 0 1 3 cancelled 0 0 -":                                       {fine, fine},
		"- 0 0 value 1 6 1; 0 1 1 value 1 6 1; 1 0 2 cancelled 0 0 -; 1 1 2 cancelled 0 0 -; 0 1 3 value 1 4 1; 4 1 2 value 0 2 -":     {fine, 4}, // what is around was asked, but not this one
		"- 0 0 running 0 3 -; 0 1 1 value 1 6 1; 1 0 2 cancelled 0 0 -; 1 1 2 value 0 2 -; 0 1 3 running 0 0 -":                        {fine, 2},
		"- 0 0 running 0 4 -; 0 1 1 value 1 6 1; 1 0 2 cancelled 0 0 -; 1 1 2 value 0 2 -; 0 1 3 running 0 0 -":                        {fine, fine},
	}.hold(t, of("cancel"))
	two{
		"- 0 0 value 0 6 0; 0 1 1 value 1 6 1; 1 0 2 value 0 2 -; 1 1 2 cancelled 0 0 -; 0 1 3 value 0 4 0; 4 1 2 value 0 2 -":     {fine, fine},
		"- 0 0 value 0 6 0; 0 1 1 value 1 6 1; 1 0 2 cancelled 0 0 -; 1 1 2 cancelled 0 0 -; 0 1 3 value 0 4 0; 4 1 2 value 0 2 -": {fine, 2},
		"- 0 0 value 0 6 0; 0 1 1 value 1 6 1; 1 0 2 value 0 2 -; 1 1 2 cancelled 0 0 -; 0 1 3 value 0 4 0; 4 1 2 cancelled 0 0 -": {fine, 5}, // scope 1 of another one was
		"- 0 0 value 0 6 0; 0 1 1 value 1 6 1; 1 0 2 value 0 2 -; 1 1 2 value 0 2 -; 0 1 3 cancelled 0 0 -":                        {fine, 4},
		"- 0 0 value 0 6 0; 0 1 1 cancelled 0 0 -; 0 1 3 cancelled 0 0 -":                                                          {fine, 1},
		"- 0 0 value 1 6 1; 0 1 1 cancelled 0 0 -; 0 1 3 cancelled 0 0 -":                                                          {fine, 0},
	}.hold(t, of("check"))
	// as deep as one likes
	deep := func(n int, first string) []api.Row {
		l := []api.Row{{Parent: -1, Kind: api.Running, Steps: 3}}
		for k := range n {
			l = append(l, api.Row{Parent: k, In: max(0, 1-k), Func: 1, Kind: api.Running, Steps: 1})
		}
		l[0].Steps = map[string]int{"cancel": 3, "fork": 2}[first]
		return append(l, api.Row{Parent: n, Func: 1, Kind: api.Cancelled})
	}
	p := plan("open 0; fork h0 f1; cancel; close r1; return r1", "fork h0 f1; return r0")
	for _, n := range []int{1, 2, 40, 2000} {
		answers(t, p, deep(n, "cancel"), fine, fine)
		answers(t, p, deep(n, "fork"), fine, n+1)
	}
}

// TestP8Refused hands in what may not be.
func TestP8Refused(t *testing.T) {
	of := func(l ...api.Row) []api.Row { return l }
	right := plan("open 0; fork h0 f0; jump 1")
	first := api.Row{Parent: -1, Kind: api.Running, Steps: 2}
	wrong := []struct {
		l []api.Row
		e api.Errno
	}{
		{nil, api.ErrNone},
		{of(), api.ErrNone},
		{of(api.Row{}), api.ErrForm},
		{of(api.Row{Parent: -2}), api.ErrForm},
		{of(first, first), api.ErrForm},
		{of(first, api.Row{Parent: 1}), api.ErrForm},
		{of(first, api.Row{}, api.Row{}, api.Row{Parent: 1}), api.ErrForm},
		{of(first, api.Row{Parent: math.MinInt}), api.ErrForm},
		{of(api.Row{Parent: -1, In: 1}), api.ErrRange},
		{of(first, api.Row{In: -1}), api.ErrRange},
		{of(api.Row{Parent: -1, Func: 32}), api.ErrRange},
		{of(api.Row{Parent: -1, Func: -1}), api.ErrRange},
		{of(api.Row{Parent: -1, Kind: 5}), api.ErrRange},
		{of(api.Row{Parent: -1, Kind: -1}), api.ErrRange},
		{of(api.Row{Parent: -1, Kind: api.Running, Steps: -1}), api.ErrRange},
		{of(api.Row{Parent: -1, Kind: api.Running, Steps: 1048577}), api.ErrRange},
		{of(api.Row{Parent: -1, Kind: api.Running, Closes: "2"}), api.ErrForm},
		{of(api.Row{Parent: -1, Kind: api.Running, V: 1}), api.ErrState},
		{of(api.Row{Parent: -1, Kind: api.Cancelled, V: -1}), api.ErrState},
		{of(api.Row{Parent: -1, Steps: 1}), api.ErrState},
		{of(api.Row{Parent: -1, Closes: "0"}), api.ErrState},
		{of(api.Row{Parent: -1}, api.Row{}), api.ErrState},
		{of(api.Row{Parent: -1, Kind: api.Cancelled, Steps: 2}, api.Row{Kind: api.Running}), api.ErrState},
		{of(api.Row{Parent: -1, Func: 9, Kind: api.Running}, first), api.ErrForm}, // though the first one does not fit
	}
	for _, c := range wrong {
		refused(t, right, c.l, c.e)
	}
	for _, p := range []api.Program{
		{},
		{Funcs: []api.Func{{}}},
		{Funcs: make([]api.Func, 33)},
		{Funcs: []api.Func{{Code: []api.Instr{{Op: api.Ops}}}}},
		{Funcs: []api.Func{{Code: []api.Instr{{Op: -1}}}}},
		{Funcs: []api.Func{{Code: []api.Instr{{Op: api.Return, A: 8}}}}},
		{Funcs: []api.Func{{Needs: 1, Code: []api.Instr{{Op: api.Return}}}}},
		{Funcs: []api.Func{{Needs: -1, Code: []api.Instr{{Op: api.Return}}}}},
		plan("check"),
		plan("join r0 h0; return r0"),
		plan("try r0 r0 h0; return r0"),
		plan("open 0; return r0"),
		plan("close r0; return r0"),
		plan("cancel; return r0"),
		plan("jump 1"),
		plan("if r0 9; return r0"),
		plan("fork h0 f1; return r0"),
		plan("fork h0 f1; return r0", "1: return r0"),
		plan("return r0", "return r0; close r0; return r0"), // where nobody ever comes
	} {
		for _, c := range wrong {
			refused(t, p, c.l, api.ErrPlan)
		}
		refused(t, p, of(api.Row{Parent: -1}), api.ErrPlan)
		refused(t, p, of(api.Row{Parent: -1, Kind: api.Cancelled}), api.ErrPlan)
		refused(t, p, of(api.Row{Parent: -1, Kind: api.Running, Steps: 9}), api.ErrPlan)
	}
	// functions that no task is of may be told of in a table, which then does not fit
	answers(t, right, of(api.Row{Parent: -1, Func: 31}), 0, 0)
	answers(t, right, of(first, api.Row{In: math.MaxInt}), 1, 1)
	answers(t, right, of(first, api.Row{In: 1, Func: 31}), 1, 1)
}

// TestP8Deep lets scopes lie in one another, and tasks take steps, as serial.Run does not.
func TestP8Deep(t *testing.T) {
	open, shut := strings.Repeat("open 0; ", 60), strings.Repeat("close r0; ", 60)
	p := plan(open+"fork h0 f1; "+shut+"return r0", "return r0")
	if _, _, e := serial.Run(p, api.MaxFuel); e != api.ErrDeep {
		t.Fatal(e)
	}
	zeros := strings.Repeat("0", 60)
	answers(t, p, rows("- 0 0 value 0 122 "+zeros+"; 0 60 1 value 0 1 -"), fine, fine)
	answers(t, p, rows("- 0 0 value 0 122 "+zeros+"; 0 60 1 cancelled 0 0 -"), fine, 1)
	answers(t, p, rows("- 0 0 value 0 122 "+zeros+"; 0 59 1 cancelled 0 0 -"), 1, 1)
	p.Funcs[0].Code = slices.Insert(p.Funcs[0].Code, 61+59, api.Instr{Op: api.Cancel})
	answers(t, p, rows("- 0 0 value 1 123 "+zeros[1:]+"1; 0 60 1 cancelled 0 0 -"), fine, fine)
	// together more steps than there is fuel
	p = plan("fork h0 f0; check; jump 1")
	answers(t, p, rows("- 0 0 running 0 1048576 -; 0 0 0 running 0 1048576 -; 1 0 0 pending 0 0 -"), fine, fine)
}

// --- the test's own reading of the chapter

// place is a scope: whose it is (a row; -1: the world's), and which one of that one's.
type place struct{ row, k int }

// reading is a table that is held against a program as the chapter's words have it.
type reading struct {
	p      api.Program
	l      []api.Row
	tasks  map[int]*doing
	around map[place]place
	asked  map[place]bool
}

// doing is a row's task, as far as it was followed.
type doing struct {
	at, f, pc int
	in        place
	r         [8]int64
	h         [8]int
	open      []place
	made      int    // scopes
	forks     int    // how many kids it used
	shut      int    // how many bytes of Closes it used
	last      string // "return", "panic", or another thing
	v         int64
	loud      bool // a byte of Closes is 1, and it did no Cancel
}

// read is what the chapter tells of a table, or of one that should fit quietly.
func read(p api.Program, l []api.Row, quiet bool) (int, api.Errno) {
	if !check.Accepts(p) {
		return 0, api.ErrPlan
	}
	if e := table.Check(l); e != api.OK {
		return 0, e
	}
	m := &reading{p: p, l: l, tasks: map[int]*doing{0: {in: place{-1, 0}}}, around: map[place]place{}, asked: map[place]bool{}}
	for i := range l {
		if !m.fits(i, quiet) {
			return i, api.ErrFit
		}
	}
	return 0, api.OK
}

// fits tells whether row i fits.
func (m *reading) fits(i int, quiet bool) bool {
	row, d := m.l[i], m.tasks[i]
	if row.Func != d.f || row.In != d.in.k {
		return false
	}
	if row.Kind == api.Pending {
		return true
	}
	if !m.follow(i) || d.forks != len(table.Kids(m.l, i)) || d.shut != len(row.Closes) {
		return false
	}
	if quiet && d.loud {
		return false
	}
	switch row.Kind {
	case api.Value:
		return d.last == "return" && d.v == row.V
	case api.Panicked:
		return d.last == "panic" && d.v == row.V
	case api.Cancelled:
		if d.last == "return" || d.last == "panic" || row.Steps > 0 && !code.Point(m.p.Funcs[d.f].Code[d.pc].Op) {
			return false
		}
		return !quiet || m.cancelled(d.in)
	}
	return true
}

// cancelled tells whether a scope, or one around it, was asked to be.
func (m *reading) cancelled(s place) bool {
	for ; s.row >= 0; s = m.around[s] {
		if m.asked[s] {
			return true
		}
	}
	return false
}

// follow tells whether a row's task can be followed.
func (m *reading) follow(i int) bool {
	d := m.tasks[i]
	d.open = []place{{i, 0}}
	m.around[d.open[0]] = d.in
	for range m.l[i].Steps {
		if d.last == "return" || d.last == "panic" {
			return false
		}
		in := m.p.Funcs[d.f].Code[d.pc]
		d.pc++
		if !m.does(d, i, in) {
			return false
		}
	}
	return true
}

// came is what a row has come to.
func (m *reading) came(i int) (api.Row, bool) {
	return m.l[i], m.l[i].Kind == api.Value || m.l[i].Kind == api.Panicked || m.l[i].Kind == api.Cancelled
}

// does does an instruction.
func (m *reading) does(d *doing, at int, i api.Instr) bool {
	inner := d.open[len(d.open)-1]
	switch i.Op {
	case api.Jump:
		d.pc = i.N
	case api.If:
		if d.r[i.A] != 0 {
			d.pc = i.N
		}
	case api.Fork:
		kids := table.Kids(m.l, at)
		if d.forks >= len(kids) {
			return false
		}
		kid := &doing{f: i.N, in: inner, r: d.r}
		for k, of := range d.h {
			if m.p.Funcs[i.N].Needs>>k%2 == 1 {
				kid.h[k] = of
			}
		}
		d.h[i.A] = kids[d.forks]
		m.tasks[kids[d.forks]] = kid
		d.forks++
	case api.Join:
		of, is := m.came(d.h[i.B])
		if !is {
			return false
		}
		switch of.Kind {
		case api.Value:
			d.r[i.A] = of.V
		case api.Panicked:
			d.last, d.v = "panic", of.V
		case api.Cancelled:
			d.last, d.v = "panic", -1
		}
	case api.Try:
		of, is := m.came(d.h[i.C])
		if !is {
			return false
		}
		d.r[i.A] = of.V
		d.r[i.B] = map[int]int64{api.Value: 0, api.Panicked: 1, api.Cancelled: 2}[of.Kind]
	case api.Open:
		d.made++
		d.open = append(d.open, place{at, d.made})
		m.around[place{at, d.made}] = inner
	case api.Close:
		return m.shuts(d, at, i, inner)
	case api.Cancel:
		m.asked[inner] = true
	case api.Panic:
		d.last, d.v = "panic", d.r[i.A]
	case api.Return:
		d.last, d.v = "return", d.r[i.A]
	case api.Check:
	default:
		d.r[i.A] = number(i, d.r)
	}
	return true
}

// shuts does a Close.
func (m *reading) shuts(d *doing, at int, i api.Instr, inner place) bool {
	closes := m.l[at].Closes
	if d.shut >= len(closes) || closes[d.shut] == '0' && m.asked[inner] {
		return false
	}
	d.loud = d.loud || closes[d.shut] == '1' && !m.asked[inner]
	d.r[i.A] = int64(closes[d.shut] - '0')
	d.shut++
	d.open = d.open[:len(d.open)-1]
	return true
}

// number is what an instruction puts into register A, of those that look at registers alone.
func number(i api.Instr, r [8]int64) int64 {
	x, y := r[i.B], r[i.C]
	switch i.Op {
	case api.Const:
		return int64(i.N)
	case api.Move:
		return x
	case api.Add:
		return x + y
	case api.Sub:
		return x - y
	case api.Mul:
		return x * y
	}
	if x < y {
		return 1
	}
	return 0
}

// numbers tells the same row of numbers each time: of n, the next one is from 0 to n less 1.
func numbers() func(n int) int {
	seed := uint32(11)
	return func(n int) int {
		seed = seed*1664525 + 1013904223
		return int(seed>>8) % n
	}
}

// writer writes the instructions of function k of those that need these handles.
type writer struct {
	upTo   func(int) int
	needs  []int
	k      int
	plain  bool // nothing is to be cancelled
	code   []api.Instr
	held   int
	depth  int
	rounds bool // one goes round already
}

func (w *writer) put(op, a, b, c, n int) {
	w.code = append(w.code, api.Instr{Op: op, A: a, B: b, C: c, N: n})
}

// register is one of those that do not count rounds.
func (w *writer) register() int { return w.upTo(6) }

// handle is one that is held.
func (w *writer) handle() int {
	for {
		if h := w.upTo(8); w.held>>h&1 == 1 {
			return h
		}
	}
}

// fork is a fork of a function: of one that stands behind this one, or, now and then, of any.
func (w *writer) fork() {
	f := w.k + 1 + w.upTo(3)
	if w.upTo(12) == 0 {
		f = w.upTo(len(w.needs))
	}
	if f >= len(w.needs) || w.needs[f]&^w.held != 0 {
		return
	}
	h := w.upTo(8)
	w.put(api.Fork, h, 0, 0, f)
	w.held |= 1 << h
}

// within is instructions in a scope, of which some are nothing but for a cancel.
func (w *writer) within(n int) {
	ticks := 0
	if !w.plain {
		ticks = w.upTo(3)
	}
	w.put(api.Open, 0, 0, 0, ticks)
	w.depth++
	w.block(n)
	if !w.plain && w.upTo(2) == 0 {
		w.put(api.Cancel, 0, 0, 0, 0)
		w.block(n)
	}
	w.put(api.Close, w.register(), 0, 0, 0)
	w.depth--
}

// past is instructions over which one goes, always or just if a register is not 0: what is forked there need not be held behind them.
func (w *writer) past(n int) {
	at, held := len(w.code), w.held
	if w.upTo(4) == 0 {
		w.put(api.Jump, 0, 0, 0, 0)
	} else {
		w.put(api.If, w.register(), 0, 0, 0)
	}
	w.block(n)
	if w.upTo(3) == 0 {
		w.put(api.Panic, w.register(), 0, 0, 0)
	}
	w.code[at].N, w.held = len(w.code), held
}

// round is instructions that are done some times.
func (w *writer) round(n int) {
	if w.rounds {
		return
	}
	w.rounds = true
	w.put(api.Const, 7, 0, 0, 1+w.upTo(3))
	w.put(api.Const, 6, 0, 0, -1)
	at := len(w.code)
	w.block(n)
	w.put(api.Add, 7, 7, 6, 0)
	w.put(api.If, 7, 0, 0, at)
	w.rounds = false
}

// block is some instructions, with at most so many in one another.
func (w *writer) block(n int) {
	for range w.upTo(4) {
		switch what := w.upTo(16); {
		case len(w.code) > 90:
			return
		case what < 2:
			w.put(api.Const, w.register(), 0, 0, w.upTo(9)-4)
		case what < 4:
			w.put(api.Add+w.upTo(4), w.register(), w.upTo(8), w.upTo(8), 0)
		case what == 4:
			w.put(api.Move, w.register(), w.upTo(8), 0, 0)
		case what < 8:
			w.fork()
		case what == 8 && w.held != 0:
			w.put(api.Join, w.register(), w.handle(), 0, 0)
		case what < 11 && w.held != 0:
			w.put(api.Try, w.register(), w.register(), w.handle(), 0)
		case what < 13 && n > 0:
			w.within(n - 1)
		case what == 13 && n > 0:
			w.past(n - 1)
		case what == 14 && n > 0:
			w.round(n - 1)
		default:
			w.put(api.Check, 0, 0, 0, 0)
		}
	}
}

// written is a program that is accepted.
func written(upTo func(int) int, plain bool) api.Program {
	needs := []int{0}
	for range 1 + upTo(5) {
		needs = append(needs, []int{0, 0, 1 << upTo(8), 1<<upTo(8) | 1<<upTo(8)}[upTo(4)])
	}
	p := api.Program{}
	for k := range needs {
		w := &writer{upTo: upTo, needs: needs, k: k, plain: plain, held: needs[k]}
		w.block(3)
		w.block(3)
		w.block(3)
		end := api.Return
		if upTo(6) == 0 {
			end = api.Panic
		}
		w.put(end, w.register(), 0, 0, 0)
		p.Funcs = append(p.Funcs, api.Func{Needs: needs[k], Code: w.code})
	}
	return p
}

// some tells programs that are accepted.
func some(t *testing.T, n int, tell func(upTo func(int) int, p api.Program)) {
	t.Helper()
	upTo := numbers()
	for k := range n {
		p := written(upTo, k%4 == 0)
		if !check.Accepts(p) || k%4 == 0 && !check.Plain(p) {
			t.Fatal(check.Program(p), p)
		}
		tell(upTo, p)
	}
}

// --- a runtime that does a program in whatever order

// zone is a scope.
type zone struct {
	around *zone
	k      int
	asked  bool
}

func (z *zone) cancelled() bool {
	for ; z != nil; z = z.around {
		if z.asked {
			return true
		}
	}
	return false
}

// node is a future, and its task.
type node struct {
	parent *node
	in     *zone
	own    int // scopes that it opened
	pc     int
	r      [8]int64
	h      [8]*node
	open   []*zone
	kids   []*node
	row    api.Row
	end    int // what it ends as; Running: it goes on
	v      int64
}

// world is a program that is done.
type world struct {
	p     api.Program
	upTo  func(int) int
	nodes []*node
	zones []*zone
	calm  bool // nobody cancels but tasks
}

func (w *world) make(parent *node, f int, in *zone) *node {
	n := &node{parent: parent, in: in, end: api.Running, row: api.Row{In: in.k, Func: f}}
	n.open = []*zone{{around: in}}
	w.nodes, w.zones = append(w.nodes, n), append(w.zones, n.open[0])
	if parent != nil {
		n.r = parent.r
		parent.kids = append(parent.kids, n)
		for k, h := range parent.h {
			if w.p.Funcs[f].Needs>>k&1 == 1 {
				n.h[k] = h
			}
		}
	}
	return n
}

func started(p api.Program, upTo func(int) int, calm bool) *world {
	w := &world{p: p, upTo: upTo, calm: calm}
	w.make(nil, 0, &zone{})
	return w
}

// came tells whether a future has come to something.
func came(n *node) bool { return n.row.Kind >= api.Value }

// step lets some task do what is next, if it can; now and then somebody cancels what he likes.
func (w *world) step() {
	if !w.calm && w.upTo(40) == 0 {
		w.zones[w.upTo(len(w.zones))].asked = true
	}
	n := w.nodes[w.upTo(len(w.nodes))]
	switch {
	case came(n):
	case n.end != api.Running:
		if !slices.ContainsFunc(n.kids, func(k *node) bool { return !came(k) }) {
			n.row.Kind, n.row.V = n.end, n.v
		}
	default:
		w.goOn(n)
	}
}

// goOn lets a task go on by one instruction.
func (w *world) goOn(n *node) {
	n.row.Kind = api.Running
	i := w.p.Funcs[n.row.Func].Code[n.pc]
	if (n.row.Steps == 0 || code.Point(i.Op)) && n.in.cancelled() {
		n.end = api.Cancelled
		return
	}
	if i.Op == api.Join && !came(n.h[i.B]) || i.Op == api.Try && !came(n.h[i.C]) {
		return
	}
	n.pc++
	n.row.Steps++
	inner := n.open[len(n.open)-1]
	switch i.Op {
	case api.Jump:
		n.pc = i.N
	case api.If:
		if n.r[i.A] != 0 {
			n.pc = i.N
		}
	case api.Fork:
		n.h[i.A] = w.make(n, i.N, inner)
	case api.Join:
		of := n.h[i.B].row
		n.r[i.A] = of.V
		if of.Kind != api.Value {
			n.r[i.A] = 0
			n.end, n.v = api.Panicked, of.V
		}
		if of.Kind == api.Cancelled {
			n.v = api.Lost
		}
	case api.Try:
		of := n.h[i.C].row
		n.r[i.A] = of.V
		n.r[i.B] = int64(of.Kind - api.Value)
	case api.Open:
		n.own++
		z := &zone{around: inner, k: n.own}
		n.open, w.zones = append(n.open, z), append(w.zones, z)
	case api.Close:
		n.open = n.open[:len(n.open)-1]
		n.r[i.A] = 0
		if inner.asked {
			n.r[i.A] = 1
		}
		n.row.Closes += strconv.FormatInt(n.r[i.A], 10)
	case api.Cancel:
		inner.asked = true
	case api.Panic, api.Return:
		n.end, n.v = api.Value, n.r[i.A]
		if i.Op == api.Panic {
			n.end = api.Panicked
		}
	case api.Check:
	default:
		n.r[i.A] = number(i, n.r)
	}
}

// told is the table of the world.
func (w *world) told() []api.Row {
	var l []api.Row
	var tell func(n *node, parent int)
	tell = func(n *node, parent int) {
		at := len(l)
		row := n.row
		row.Parent = parent
		l = append(l, row)
		for _, k := range n.kids {
			tell(k, at)
		}
	}
	tell(w.nodes[0], -1)
	return l
}

// one is one of some things.
func one[T any](upTo func(int) int, of ...T) T { return of[upTo(len(of))] }

// without is a table without a row, and all within it.
func without(l []api.Row, at int) []api.Row {
	n := len(within(l, at))
	var m []api.Row
	for k, r := range l {
		if k >= at && k < at+n {
			continue
		}
		if r.Parent >= at+n {
			r.Parent -= n
		}
		m = append(m, r)
	}
	return m
}

// within is a row, and all within it.
func within(l []api.Row, at int) []api.Row {
	k := at + 1
	for k < len(l) && l[k].Parent >= at {
		k++
	}
	return l[at:k]
}

// with is a table with a row more, at a place.
func with(l []api.Row, at int, r api.Row) []api.Row {
	var m []api.Row
	for k, old := range l {
		if k == at {
			m = append(m, r)
		}
		if old.Parent >= at {
			old.Parent++
		}
		m = append(m, old)
	}
	if at == len(l) {
		m = append(m, r)
	}
	return m
}

// turned is a table of which something is turned.
func turned(upTo func(int) int, l []api.Row) []api.Row {
	l = slices.Clone(l)
	at := upTo(len(l))
	r := &l[at]
	switch upTo(12) {
	case 0:
		r.Steps = max(0, r.Steps+one(upTo, -2, -1, 1, 2))
	case 1:
		r.V += int64(one(upTo, -1, 1))
	case 2:
		r.Kind = upTo(5)
		if r.Kind < api.Value || r.Kind == api.Cancelled {
			r.V = 0
		}
	case 3:
		r.Kind, r.V = api.Cancelled, 0
		r.Steps = one(upTo, 0, r.Steps, max(0, r.Steps-1))
	case 4:
		r.In = max(0, r.In+one(upTo, -1, 1))
	case 5:
		r.Func = upTo(7)
	case 6:
		r.Closes += one(upTo, "0", "1")
	case 7:
		r.Closes = r.Closes[:max(0, len(r.Closes)-1)]
	case 8, 9:
		if n := len(r.Closes); n > 0 {
			k := upTo(n)
			r.Closes = r.Closes[:k] + strconv.Itoa(1-int(r.Closes[k]-'0')) + r.Closes[k+1:]
		}
	case 10:
		if at > 0 {
			return without(l, at)
		}
	case 11:
		if at > 0 {
			return with(l, at, api.Row{Parent: r.Parent, In: r.In, Func: r.Func, Kind: one(upTo, 0, 1, 2, 4)})
		}
	}
	return l
}

// agrees holds what Fits and Quiet tell of a table against the test's own reading of the chapter.
func agrees(t *testing.T, p api.Program, l []api.Row) (e, quiet api.Errno) {
	t.Helper()
	at, e := fits.Fits(p, l)
	if want, was := read(p, l, false); at != want || e != was {
		t.Fatalf("Fits of %s\nof\n%s: %d, %v; not %d, %v", printed(l), listing(p), at, e, want, was)
	}
	where, quiet := fits.Quiet(p, l)
	if want, was := read(p, l, true); where != want || quiet != was {
		t.Fatalf("Quiet of %s\nof\n%s: %d, %v; not %d, %v", printed(l), listing(p), where, quiet, want, was)
	}
	if quiet == api.OK && e != api.OK {
		t.Fatalf("%s\nof\n%s fits quietly, and does not fit", printed(l), listing(p))
	}
	return e, quiet
}

// TestP8Read holds what is told of tables, as they come while a program is done in whatever order, and of such that are turned, against the test's own reading of the chapter.
func TestP8Read(t *testing.T) {
	seen, done, kinds := map[[2]api.Errno]int{}, 0, map[int]int{}
	some(t, 3000, func(upTo func(int) int, p api.Program) {
		w := started(p, upTo, upTo(2) == 0)
		for range 6 {
			for range upTo(50) {
				w.step()
			}
			l := w.told()
			e, quiet := agrees(t, p, l)
			if e != api.OK || w.calm && quiet != api.OK {
				t.Fatalf("%s\nof\n%s: %v, %v, though it came so", printed(l), listing(p), e, quiet)
			}
			if table.Done(l) {
				done++
			}
			for _, r := range l {
				kinds[r.Kind]++
			}
			for range 3 {
				m := turned(upTo, l)
				for range upTo(2) {
					m = turned(upTo, m)
				}
				e, quiet := agrees(t, p, m)
				seen[[2]api.Errno{e, quiet}]++
			}
		}
	})
	unlike := 0 // fits, but not quietly
	for both, n := range seen {
		if both[0] != both[1] {
			unlike += n
		}
	}
	if seen[[2]api.Errno{}] < 1000 || unlike < 1000 || seen[[2]api.Errno{api.ErrFit, api.ErrFit}] < 1000 || done < 1000 || len(kinds) != 5 || slices.Min(slices.Collect(maps.Values(kinds))) < 500 {
		t.Error("too few of a kind are tried:", seen, done, kinds)
	}
}

// TestP83Serial holds what serial.Run tells.
func TestP83Serial(t *testing.T) {
	runs, lost := 0, 0
	some(t, 6000, func(upTo func(int) int, p api.Program) {
		l, _, e := serial.Run(p, 2000)
		if e != api.OK {
			return
		}
		runs++
		for _, r := range l {
			if r.Kind == api.Cancelled {
				lost++
			}
		}
		answers(t, p, l, fine, fine)
	})
	if runs < 1000 || lost < 500 {
		t.Error("too few of a kind are tried:", runs, lost)
	}
}

// TestP83Plain lets programs that are Plain be done in whatever order, to their ends, and turns what comes of it.
func TestP83Plain(t *testing.T) {
	ends, other := 0, 0
	some(t, 4000, func(upTo func(int) int, p api.Program) {
		want, _, e := serial.Run(p, 1000)
		if !check.Plain(p) || e != api.OK {
			return
		}
		w := started(p, upTo, true)
		for range 20000 {
			w.step()
			if came(w.nodes[0]) {
				break
			}
		}
		l := w.told()
		for k := range 40 {
			if _, e := fits.Quiet(p, l); e == api.OK && table.Done(l) {
				ends++
				if !slices.Equal(l, want) {
					t.Fatalf("%s\nof\n%s fits quietly; not %s", printed(l), listing(p), printed(want))
				}
			} else if k == 0 {
				t.Fatalf("%s\nof\n%s: %v", printed(l), listing(p), e)
			} else {
				other++
			}
			l = turned(upTo, want)
		}
	})
	if ends < 1000 || other < 1000 {
		t.Error("too few of a kind are tried:", ends, other)
	}
}

// TestP83Others turns one number of a row of a table that fits.
func TestP83Others(t *testing.T) {
	seen := map[string]int{}
	some(t, 3000, func(upTo func(int) int, p api.Program) {
		w := started(p, upTo, false)
		for range upTo(600) {
			w.step()
		}
		l := w.told()
		at := upTo(len(l))
		r := l[at]
		what := one(upTo, "V", "Steps", "Func", "In")
		switch m := &l[at]; {
		case what == "Func":
			m.Func = upTo(api.MaxFuncs)
		case what == "In" && at > 0:
			m.In = upTo(4)
		case r.Kind != api.Value && r.Kind != api.Panicked:
			return
		case what == "V":
			m.V = one(upTo, m.V+1, m.V-1, 0, 1, -1, math.MaxInt64)
		case what == "Steps":
			m.Steps = one(upTo, m.Steps+1, max(0, m.Steps-1), 0, upTo(20), api.MaxFuel)
		}
		if l[at] == r {
			return
		}
		seen[what]++
		got, e := fits.Fits(p, l)
		// V may be told by a join of one ahead of it, which then does not fit; whose it is, and what it did, is told to nobody
		if e != api.ErrFit || got > at || got != at && what != "V" {
			t.Fatalf("Fits of %s\nof\n%s: %d, %v, though %s of row %d is another one: %v", printed(l), listing(p), got, e, what, at, r)
		}
	})
	if len(seen) != 4 || slices.Min(slices.Collect(maps.Values(seen))) < 100 {
		t.Error("too few of a kind are tried:", seen)
	}
}

// TestP8Many has many rows, of which each is looked at in no more time than it tells of.
func TestP8Many(t *testing.T) {
	const n = 40000
	// side by side
	p := plan("const r1 1; open 0; fork h0 f1; jump 2", "check; return r1")
	l := []api.Row{{Parent: -1, Kind: api.Running, Steps: 1 + 2*n}}
	for range n {
		l = append(l, api.Row{In: 1, Func: 1, Kind: api.Value, V: 1, Steps: 2})
	}
	answers(t, p, l, fine, fine)
	l[n] = api.Row{In: 1, Func: 1, Kind: api.Cancelled}
	answers(t, p, l, fine, n)
	l[n/2].V = 2
	answers(t, p, l, n/2, n/2)
	// one in the other, and all of them in a scope that the first one cancels
	p = plan("open 0; fork h0 f1; cancel; close r0; return r0", "open 0; fork h0 f1; close r0; return r0")
	l = []api.Row{{Parent: -1, Kind: api.Running, Steps: 3}}
	for k := range n {
		l = append(l, api.Row{Parent: k, In: 1, Func: 1, Kind: api.Cancelled, Steps: 2})
	}
	l = append(l, api.Row{Parent: n, In: 1, Func: 1, Kind: api.Cancelled})
	answers(t, p, l, fine, fine)
	l[0].Steps = 2
	answers(t, p, l, fine, 1)
	l[n].In = 2
	answers(t, p, l, n, 1)
	// a row with as many steps, and scopes, as there may be
	p = plan("open 0; close r0; jump 0")
	l = []api.Row{{Parent: -1, Kind: api.Running, Steps: api.MaxFuel - 1, Closes: strings.Repeat("0", api.MaxFuel/3)}}
	answers(t, p, l, fine, fine)
	l[0].Closes = l[0].Closes[1:] + "1"
	answers(t, p, l, fine, 0)
	l[0].Closes = l[0].Closes[1:]
	answers(t, p, l, 0, 0)
}

// TestMemory holds what is handed in against what it was, and what is answered against what is answered then (R2, R3).
func TestMemory(t *testing.T) {
	made := func() (api.Program, []api.Row) {
		p := plan("open 3; cancel; fork h1 f1; close r2; fork h1 f1; fork h2 f2; try r0 r1 h2; return r0", "const r2 5; return r2", "2: join r3 h1; panic r3", "return r0")
		p.Funcs[1].Code = append(p.Funcs[1].Code, api.Instr{Op: 50})[:2]
		p.Funcs = p.Funcs[:3]
		l := rows("- 0 0 value 5 8 1; 0 1 1 cancelled 0 0 -; 0 0 1 value 5 2 -; 0 0 2 panicked 5 2 -")
		return p, append(l, api.Row{V: 77})[:len(l)]
	}
	p, l := made()
	q, m := made()
	ask := func() {
		answers(t, p, l, fine, fine)
		answers(t, p, l[:3], 0, 0)
		if _, e := fits.Fits(api.Program{}, l); e != api.ErrPlan {
			t.Error(e)
		}
		if _, e := fits.Quiet(p, l[1:]); e != api.ErrForm {
			t.Error(e)
		}
	}
	ask()
	ask()
	if !reflect.DeepEqual(p.Funcs[:4], q.Funcs[:4]) || !reflect.DeepEqual(p.Funcs[1].Code[:3], q.Funcs[1].Code[:3]) || !slices.Equal(l[:len(l)+1], m[:len(m)+1]) {
		t.Error("what is handed in is written into")
	}
	// what was told of another table, or program, is not kept
	other := slices.Clone(l)
	other[0].V++
	answers(t, p, other, 0, 0)
	answers(t, plan("return r0"), l, 0, 0)
	ask()
}
