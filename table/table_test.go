package table_test

import (
	"math"
	"math/big"
	"regexp"
	"slices"
	"strconv"
	"strings"
	"testing"

	"peloton/api"
	"peloton/table"
)

// root is a first row.
func root(f, kind int, v int64, steps int, closes string) api.Row {
	return api.Row{Parent: -1, Func: f, Kind: kind, V: v, Steps: steps, Closes: closes}
}

// row is another one.
func row(parent, in, f, kind int, v int64, steps int, closes string) api.Row {
	return api.Row{Parent: parent, In: in, Func: f, Kind: kind, V: v, Steps: steps, Closes: closes}
}

// plain is a row of which nothing matters but whose it is, and how it stands.
func plain(parent, kind int) api.Row { return api.Row{Parent: parent, Kind: kind} }

// some is a table with rows of each kind: 1 and 3 are kids of 0, 2 of 1, 4 of 3.
func some() []api.Row {
	return []api.Row{
		root(0, api.Running, 0, 4, "01"),
		row(0, 0, 1, api.Value, -7, 2, ""),
		row(1, 2, 2, api.Panicked, 3, 1, "1"),
		row(0, 1, 31, api.Running, 0, 1048576, ""),
		row(3, 5, 4, api.Cancelled, 0, 9, "0"),
		row(0, 1, 5, api.Pending, 0, 0, ""),
	}
}

// numbers is a row of numbers that is the same each time.
func numbers() func(n int) int {
	seed := uint32(7)
	return func(n int) int {
		seed = seed*1664525 + 1013904223
		return int(seed>>8) % n
	}
}

// one is one of some things.
func one[T any](upTo func(int) int, of ...T) T { return of[upTo(len(of))] }

// --- the test's own reading of the chapter

func ended(r api.Row) bool { return r.Kind >= 2 }

// line is those within which a row of right rows is, from it on.
func line(l []api.Row, i int) []int {
	if i < 0 {
		return nil
	}
	return append([]int{i}, line(l, l[i].Parent)...)
}

var digits = regexp.MustCompile(`\A[01]*\z`)

// lookedAt is what the chapter tells of row i, if those ahead of it are right: whether it is wrong in one way after the other, and how.
func lookedAt(l []api.Row, i int) api.Errno {
	r := l[i]
	if i == 0 && r.Parent != -1 || i > 0 && !slices.Contains(line(l, i-1), r.Parent) {
		return api.ErrForm
	}
	if r.In < 0 || i == 0 && r.In > 0 || r.Func < 0 || r.Func > 31 || r.Kind < 0 || r.Kind > 4 || r.Steps < 0 || r.Steps > 1048576 {
		return api.ErrRange
	}
	if !digits.MatchString(r.Closes) {
		return api.ErrForm
	}
	if r.V != 0 && r.Kind != api.Value && r.Kind != api.Panicked {
		return api.ErrState
	}
	if r.Kind == api.Pending && (r.Steps != 0 || r.Closes != "") {
		return api.ErrState
	}
	if i > 0 && l[r.Parent].Kind == api.Pending {
		return api.ErrState
	}
	if i > 0 && ended(l[r.Parent]) && !ended(r) {
		return api.ErrState
	}
	return api.OK
}

// checked is what Check has to say, and the number of the row of which it says so.
func checked(l []api.Row) (int, api.Errno) {
	for i := range l {
		if e := lookedAt(l, i); e != api.OK {
			return i, e
		}
	}
	if len(l) == 0 {
		return 0, api.ErrNone
	}
	return 0, api.OK
}

// kids is the kids of a row.
func kids(l []api.Row, i int) []int {
	var of []int
	for k := range l {
		if l[k].Parent == i {
			of = append(of, k)
		}
	}
	return of
}

// below is what is within a row of a table, kid by kid.
func below(l []api.Row, i int) []int {
	all := []int{i}
	for _, k := range kids(l, i) {
		all = append(all, below(l, k)...)
	}
	return all
}

// under is what Under has to say of a row of a table.
func under(l []api.Row, i int) []api.Row {
	all := below(l, i)
	var u []api.Row
	for _, k := range all {
		r := l[k]
		r.Parent = slices.Index(all, r.Parent)
		u = append(u, r)
	}
	u[0].In = 0
	return u
}

// written is a table's text.
func written(l []api.Row) string {
	s := ""
	for _, r := range l {
		parent, closes := strconv.Itoa(r.Parent), r.Closes
		if r.Parent == -1 {
			parent = "-"
		}
		if closes == "" {
			closes = "-"
		}
		kind := strings.Fields("pending running value panicked cancelled")[r.Kind]
		s += parent + " " + strconv.Itoa(r.In) + " " + strconv.Itoa(r.Func) + " " + kind + " " + strconv.Itoa(int(r.V)) + " " + strconv.Itoa(r.Steps) + " " + closes + "\n"
	}
	return s
}

var numeral = regexp.MustCompile(`\A(0|-?[1-9][0-9]*)\z`)

// number is what a word tells that should be a number.
func number(w string) (int64, api.Errno) {
	if !numeral.MatchString(w) {
		return 0, api.ErrForm
	}
	n, _ := new(big.Int).SetString(w, 10)
	if !n.IsInt64() {
		return 0, api.ErrRange
	}
	return n.Int64(), api.OK
}

// told is the row that seven words tell.
func told(words []string) (api.Row, api.Errno) {
	var n [7]int64
	for k, w := range words[:6] {
		if k == 3 {
			n[k] = int64(slices.Index([]string{"pending", "running", "value", "panicked", "cancelled"}, w))
			if n[k] < 0 {
				return api.Row{}, api.ErrName
			}
			continue
		}
		if k == 0 && w == "-" {
			n[k] = -1
			continue
		}
		x, e := number(w)
		if e == api.OK && k == 0 && x < 0 {
			e = api.ErrForm
		}
		if e != api.OK {
			return api.Row{}, e
		}
		n[k] = x
	}
	closes := map[bool]string{true: words[6], false: "other bytes"}[words[6] != ""]
	if closes == "-" {
		closes = ""
	}
	return api.Row{Parent: int(n[0]), In: int(n[1]), Func: int(n[2]), Kind: int(n[3]), V: n[4], Steps: int(n[5]), Closes: closes}, api.OK
}

// parsed is what Parse has to say of a text that is not too long.
func parsed(s string) ([]api.Row, int, api.Errno) {
	if s == "" {
		return nil, 0, api.ErrNone
	}
	var l []api.Row
	for at, text := range strings.SplitAfter(s, "\n") {
		if text == "" { // behind the last line feed
			break
		}
		words := strings.Split(strings.TrimSuffix(text, "\n"), " ")
		if !strings.HasSuffix(text, "\n") || len(words) != 7 {
			return nil, at + 1, api.ErrForm
		}
		r, e := told(words)
		if e != api.OK {
			return nil, at + 1, e
		}
		l = append(l, r)
		if e := lookedAt(l, at); e != api.OK {
			return nil, at + 1, e
		}
	}
	return l, 0, api.OK
}

// became tells whether row j of m may be what row i of l became, and all that is within it.
func became(l, m []api.Row, i, j int) bool {
	was, is := l[i], m[j]
	of, now := kids(l, i), kids(m, j)
	if i > 0 && was.In != is.In || was.Func != is.Func || len(now) < len(of) {
		return false
	}
	if ended(was) && (was.Kind != is.Kind || was.V != is.V || was.Steps != is.Steps || was.Closes != is.Closes || len(now) > len(of)) {
		return false
	}
	if was.Kind == api.Running && (is.Kind == api.Pending || is.Steps < was.Steps || !strings.HasPrefix(is.Closes, was.Closes)) {
		return false
	}
	for n := range of {
		if !became(l, m, of[n], now[n]) {
			return false
		}
	}
	return true
}

// grown is what Grown has to say.
func grown(l, m []api.Row) bool {
	_, e := checked(l)
	_, f := checked(m)
	return e == api.OK && f == api.OK && became(l, m, 0, 0)
}

// --- tables that are made up

// node is a row, with its kids.
type node struct {
	row  api.Row
	kids []*node
}

// tree is the node of a row of a table.
func tree(l []api.Row, i int) *node {
	n := &node{row: l[i]}
	for _, k := range kids(l, i) {
		n.kids = append(n.kids, tree(l, k))
	}
	return n
}

// put puts a node's rows behind others.
func (n *node) put(l []api.Row, parent int) []api.Row {
	at := len(l)
	r := n.row
	r.Parent = parent
	l = append(l, r)
	for _, k := range n.kids {
		l = k.put(l, at)
	}
	return l
}

func (n *node) rows() []api.Row { return n.put(nil, -1) }

// end lets a node, and all below it, come to something.
func (n *node) end(upTo func(int) int) {
	for _, k := range n.kids {
		k.end(upTo)
	}
	if ended(n.row) {
		return
	}
	n.row.Steps += upTo(3)
	n.row.Closes += one(upTo, "", "0", "10")
	n.row.Kind = 2 + upTo(3)
	if n.row.Kind != api.Cancelled {
		n.row.V = one[int64](upTo, 0, 1, -1, math.MinInt64, math.MaxInt64)
	}
}

// grow lets a node go on for a while.
func (n *node) grow(upTo func(int) int) {
	if ended(n.row) || upTo(4) == 0 {
		return
	}
	n.row.Kind = api.Running
	n.row.Steps += upTo(3)
	n.row.Closes += one(upTo, "", "", "0", "1", "01")
	for _, k := range n.kids {
		k.grow(upTo)
	}
	for upTo(2) == 0 {
		k := &node{row: api.Row{In: upTo(3), Func: upTo(32)}}
		n.kids = append(n.kids, k)
		k.grow(upTo)
	}
	if upTo(4) == 0 {
		n.end(upTo)
	}
}

// later is a table that came of another one.
func later(upTo func(int) int, l []api.Row) []api.Row {
	n := tree(l, 0)
	n.grow(upTo)
	return n.rows()
}

// madeUp is a table: some time after its root was made.
func madeUp(upTo func(int) int) []api.Row {
	l := []api.Row{root(upTo(32), api.Pending, 0, 0, "")}
	for range upTo(6) {
		l = later(upTo, l)
	}
	return l
}

// turned is rows of which something is turned.
func turned(upTo func(int) int, l []api.Row) []api.Row {
	l = slices.Clone(l)
	at, of := upTo(len(l)), upTo(len(l))
	switch r := &l[at]; upTo(10) {
	case 0, 1:
		r.Parent = one(upTo, -2, -1, 0, at-2, at-1, at, at+1, len(l), upTo(len(l)), math.MaxInt, math.MinInt)
	case 2:
		r.In = one(upTo, -1, 0, 1, math.MaxInt, math.MinInt)
	case 3:
		r.Func = one(upTo, -1, 0, 31, 32, math.MaxInt, math.MinInt)
	case 4, 5:
		r.Kind = one(upTo, -1, 0, 1, 2, 3, 4, 5, math.MaxInt, math.MinInt)
	case 6:
		r.V = one[int64](upTo, -1, 0, 1, math.MaxInt64, math.MinInt64)
	case 7:
		r.Steps = one(upTo, -1, 0, 1, 1048576, 1048577, math.MaxInt, math.MinInt)
	case 8:
		r.Closes = one(upTo, "", "0", "1", "10", "2", "-", "0x1", " 0", "0 ", "/", "0\n", "\x00", "\xb0", "٠")
	case 9:
		l[at], l[of] = l[of], l[at]
	}
	return l
}

// --- P7.1

func TestP71Check(t *testing.T) {
	for i, l := range [][]api.Row{
		some(),
		{plain(-1, api.Pending)},
		{plain(-1, api.Cancelled)},
		{root(31, api.Running, 0, 1048576, "0110")},
		{root(0, api.Value, math.MinInt64, 0, "")},
		{root(0, api.Panicked, math.MaxInt64, 0, strings.Repeat("01", 1000))},
		{plain(-1, 1), row(0, math.MaxInt, 0, 0, 0, 0, "")},
		{plain(-1, 1), plain(0, 1), plain(1, 1), plain(2, 0), plain(2, 0), plain(1, 0), plain(0, 0)},
		{plain(-1, 2), plain(0, 3), plain(1, 4), plain(0, 2)},
		{plain(-1, 3), plain(0, 2)},
		{plain(-1, 4), plain(0, 2)},
	} {
		if e := table.Check(l); e != api.OK {
			t.Errorf("%d: Check(%v): %v", i, l, e)
		}
	}
}

func TestP71CheckErrors(t *testing.T) {
	for i, l := range [][]api.Row{nil, {}} {
		if e := table.Check(l); e != api.ErrNone {
			t.Error(i, e)
		}
	}
	for i, c := range []struct {
		at   int
		turn func(r *api.Row)
		e    api.Errno
	}{
		{0, func(r *api.Row) { r.Parent = 0 }, api.ErrForm},
		{0, func(r *api.Row) { r.Parent = -2 }, api.ErrForm},
		{0, func(r *api.Row) { r.Parent = 1 }, api.ErrForm},
		{0, func(r *api.Row) { r.Parent = math.MaxInt }, api.ErrForm},
		{1, func(r *api.Row) { r.Parent = -1 }, api.ErrForm},
		{1, func(r *api.Row) { r.Parent = 1 }, api.ErrForm}, // whose own one it is
		{1, func(r *api.Row) { r.Parent = 2 }, api.ErrForm},
		{2, func(r *api.Row) { r.Parent = 6 }, api.ErrForm},
		{2, func(r *api.Row) { r.Parent = math.MinInt }, api.ErrForm},
		{4, func(r *api.Row) { r.Parent = 1 }, api.ErrForm}, // a row ahead, but not one within which the one right ahead is
		{4, func(r *api.Row) { r.Parent = 2 }, api.ErrForm},
		{5, func(r *api.Row) { r.Parent = 1 }, api.ErrForm},
		{5, func(r *api.Row) { r.Parent = -1 }, api.ErrForm},
		{0, func(r *api.Row) { r.In = 1 }, api.ErrRange},
		{0, func(r *api.Row) { r.In = -1 }, api.ErrRange},
		{1, func(r *api.Row) { r.In = -1 }, api.ErrRange},
		{1, func(r *api.Row) { r.In = math.MinInt }, api.ErrRange},
		{0, func(r *api.Row) { r.Func = 32 }, api.ErrRange},
		{0, func(r *api.Row) { r.Func = -1 }, api.ErrRange},
		{4, func(r *api.Row) { r.Func = math.MaxInt }, api.ErrRange},
		{0, func(r *api.Row) { r.Kind = 5 }, api.ErrRange},
		{0, func(r *api.Row) { r.Kind = -1 }, api.ErrRange},
		{2, func(r *api.Row) { r.Kind = math.MaxInt }, api.ErrRange},
		{0, func(r *api.Row) { r.Steps = -1 }, api.ErrRange},
		{0, func(r *api.Row) { r.Steps = 1048577 }, api.ErrRange},
		{2, func(r *api.Row) { r.Steps = math.MinInt }, api.ErrRange},
		{0, func(r *api.Row) { r.Closes = "2" }, api.ErrForm},
		{0, func(r *api.Row) { r.Closes = "-" }, api.ErrForm},
		{0, func(r *api.Row) { r.Closes = " " }, api.ErrForm},
		{0, func(r *api.Row) { r.Closes = "0110x" }, api.ErrForm},
		{0, func(r *api.Row) { r.Closes = "01x10" }, api.ErrForm},
		{0, func(r *api.Row) { r.Closes = "\x0001" }, api.ErrForm},
		{2, func(r *api.Row) { r.Closes = "٠" }, api.ErrForm}, // a digit of another script
		{0, func(r *api.Row) { r.V = 1 }, api.ErrState},
		{3, func(r *api.Row) { r.V = math.MinInt64 }, api.ErrState},
		{4, func(r *api.Row) { r.V = -1 }, api.ErrState},
		{5, func(r *api.Row) { r.V = 1 }, api.ErrState},
		{5, func(r *api.Row) { r.Steps = 1 }, api.ErrState},
		{5, func(r *api.Row) { r.Closes = "0" }, api.ErrState},
		{0, func(r *api.Row) { r.Kind, r.Steps, r.Closes = api.Pending, 0, "" }, api.ErrState}, // with kids, which have come to something
		{3, func(r *api.Row) { r.Kind, r.Steps, r.Closes = api.Pending, 0, "" }, api.ErrState},
		{5, func(r *api.Row) { r.Parent = 3 }, api.OK},
		{5, func(r *api.Row) { r.Parent = 4 }, api.ErrState},
		{0, func(r *api.Row) { r.Kind = api.Value }, api.ErrState},
		{0, func(r *api.Row) { r.Kind = api.Panicked }, api.ErrState},
		{0, func(r *api.Row) { r.Kind = api.Cancelled }, api.ErrState},
		{2, func(r *api.Row) { r.Kind, r.V = api.Running, 0 }, api.ErrState},
		{2, func(r *api.Row) { r.Kind, r.V, r.Steps, r.Closes = api.Pending, 0, 0, "" }, api.ErrState},
		// of one row the first thing that is wrong
		{0, func(r *api.Row) { r.Parent, r.In = 0, -1 }, api.ErrForm},
		{4, func(r *api.Row) { r.Parent, r.Func = 1, 32 }, api.ErrForm},
		{0, func(r *api.Row) { r.In, r.Closes = 1, "x" }, api.ErrRange},
		{0, func(r *api.Row) { r.Kind, r.V = 5, 1 }, api.ErrRange},
		{0, func(r *api.Row) { r.Closes, r.V = "x", 1 }, api.ErrForm},
		{5, func(r *api.Row) { r.Closes = "x" }, api.ErrForm},
		{2, func(r *api.Row) { r.Kind, r.Func = api.Running, -1 }, api.ErrRange},
		{2, func(r *api.Row) { r.Kind, r.V, r.Closes = api.Running, 0, "-" }, api.ErrForm},
	} {
		l := some()
		c.turn(&l[c.at])
		if e := table.Check(l); e != c.e {
			t.Errorf("%d: Check(%v): %v, not %v", i, l, e, c.e)
		}
	}
	// of rows the first one that is wrong
	l := some()
	l[1].V, l[2].Func, l[3].Parent = 0, 32, -1
	if e := table.Check(l); e != api.ErrRange {
		t.Error(e)
	}
	l[1].Closes = "x"
	if e := table.Check(l); e != api.ErrForm {
		t.Error(e)
	}
	l[0].V = 1
	if e := table.Check(l); e != api.ErrState {
		t.Error(e)
	}
}

// TestP71Read holds what Check tells of rows against the test's own reading.
func TestP71Read(t *testing.T) {
	upTo := numbers()
	seen := map[api.Errno]int{}
	for range 30000 {
		l := madeUp(upTo)
		if e := table.Check(l); e != api.OK {
			t.Fatalf("Check(%v): %v", l, e)
		}
		for range upTo(4) {
			l = turned(upTo, l)
		}
		e := table.Check(l)
		if _, want := checked(l); e != want {
			t.Fatalf("Check(%v): %v, not %v", l, e, want)
		}
		seen[e]++
	}
	for _, e := range []api.Errno{api.OK, api.ErrForm, api.ErrRange, api.ErrState} {
		if seen[e] < 1000 {
			t.Errorf("%v was answered %d times", e, seen[e])
		}
	}
}

// TestP71Pairs lets a row of each kind be a kid of one of each kind.
func TestP71Pairs(t *testing.T) {
	for of := range 5 {
		for kind := range 5 {
			want := api.OK
			if of == 0 || of >= 2 && kind < 2 {
				want = api.ErrState
			}
			for _, l := range [][]api.Row{
				{plain(-1, of), plain(0, kind)},
				{plain(-1, 1), plain(0, of), plain(1, kind)},
			} {
				if e := table.Check(l); e != want {
					t.Errorf("Check(%v): %v, not %v", l, e, want)
				}
			}
		}
	}
}

func TestP71Done(t *testing.T) {
	for i, c := range []struct {
		l  []api.Row
		is bool
	}{
		{nil, true}, // each one of none
		{[]api.Row{plain(-1, 2)}, true},
		{[]api.Row{plain(-1, 3), plain(0, 4), plain(1, 2)}, true},
		{[]api.Row{plain(-1, 0)}, false},
		{[]api.Row{plain(-1, 1)}, false},
		{[]api.Row{plain(-1, 1), plain(0, 2)}, false},
		{[]api.Row{plain(-1, 2), plain(0, 1)}, false},
		{[]api.Row{plain(-1, 2), plain(0, 0), plain(0, 2)}, false},
		{[]api.Row{plain(-1, 5), plain(9, math.MaxInt)}, true}, // Value, or above
		{[]api.Row{plain(-1, -1)}, false},
		{some(), false},
		{some()[1:3], true},
	} {
		if table.Done(c.l) != c.is {
			t.Errorf("%d: Done(%v)", i, c.l)
		}
	}
}

func TestP71Kids(t *testing.T) {
	for _, c := range []struct {
		i    int
		want []int
	}{
		{0, []int{1, 3, 5}}, {1, []int{2}}, {2, nil}, {3, []int{4}}, {4, nil}, {5, nil},
		{-1, []int{0}}, {6, nil}, {-2, nil}, {math.MaxInt, nil}, {math.MinInt, nil},
	} {
		if got := table.Kids(some(), c.i); !slices.Equal(got, c.want) {
			t.Errorf("Kids %d: %v, not %v", c.i, got, c.want)
		}
	}
	if got := table.Kids(nil, 0); len(got) != 0 {
		t.Error(got)
	}
	wild := []api.Row{plain(2, 0), plain(7, 0), plain(2, 0), plain(-9, 0)}
	if got := table.Kids(wild, 2); !slices.Equal(got, []int{0, 2}) {
		t.Error(got)
	}
}

func TestP71Within(t *testing.T) {
	l := some()
	want := [][]int{{0, 1, 2, 3, 4, 5}, {1, 2}, {2}, {3, 4}, {4}, {5}}
	for of := -2; of < 8; of++ {
		for i := -2; i < 8; i++ {
			is := of >= 0 && of < 6 && slices.Contains(want[of], i)
			if table.Within(l, i, of) != is {
				t.Errorf("Within %d, of %d, is not %v", i, of, is)
			}
		}
	}
	for _, n := range []int{-1, 0, 1, math.MaxInt, math.MinInt} {
		if table.Within(nil, n, n) || table.Within(l, n, math.MaxInt) || table.Within(l, math.MinInt, n) {
			t.Error(n)
		}
	}
}

// TestP71Wild hands in rows that are no table: each call ends.
func TestP71Wild(t *testing.T) {
	upTo := numbers()
	for range 2000 {
		var l []api.Row
		for range upTo(6) {
			l = append(l, plain(upTo(10)-2, upTo(8)-1))
		}
		for i := -2; i < 8; i++ {
			table.Kids(l, i)
			for of := -2; of < 8; of++ {
				table.Within(l, i, of)
			}
		}
		table.Done(l)
	}
	round := []api.Row{plain(1, 0), plain(0, 0), plain(2, 0)}
	if table.Within(round, 0, 2) || table.Within(round, 2, 0) || !table.Within(round, 0, 1) || !table.Within(round, 1, 0) {
		t.Error("Parents that go round")
	}
}

// --- P7.2

func TestP72Under(t *testing.T) {
	for i, want := range [][]api.Row{
		some(),
		{root(1, api.Value, -7, 2, ""), row(0, 2, 2, api.Panicked, 3, 1, "1")},
		{root(2, api.Panicked, 3, 1, "1")},
		{root(31, api.Running, 0, 1048576, ""), row(0, 5, 4, api.Cancelled, 0, 9, "0")},
		{root(4, api.Cancelled, 0, 9, "0")},
		{root(5, api.Pending, 0, 0, "")},
	} {
		if got, e := table.Under(some(), i); !slices.Equal(got, want) || e != api.OK {
			t.Errorf("Under %d: %v, %v, not %v", i, got, e, want)
		}
	}
	deep := []api.Row{plain(-1, 1), plain(0, 1), plain(1, 1), plain(2, 2), plain(2, 0), plain(1, 0), plain(0, 0)}
	want := []api.Row{plain(-1, 1), plain(0, 1), plain(1, 2), plain(1, 0), plain(0, 0)}
	if got, e := table.Under(deep, 1); !slices.Equal(got, want) || e != api.OK {
		t.Error(got, e)
	}
}

func TestP72Errors(t *testing.T) {
	wrong := some()
	wrong[5].V = 1
	for i, c := range []struct {
		l []api.Row
		i int
		e api.Errno
	}{
		{nil, 0, api.ErrNone},
		{[]api.Row{}, -1, api.ErrNone},
		{some(), -1, api.ErrRange},
		{some(), 6, api.ErrRange},
		{some(), math.MaxInt, api.ErrRange},
		{some(), math.MinInt, api.ErrRange},
		{wrong, 0, api.ErrState},
		{wrong, 2, api.ErrState}, // though what is within 2 is a table
		{wrong, 9, api.ErrState},
		{some()[1:3], 0, api.ErrForm},
		{[]api.Row{root(32, 0, 0, 0, "")}, 1, api.ErrRange},
	} {
		if got, e := table.Under(c.l, c.i); len(got) != 0 || e != c.e {
			t.Errorf("%d: Under: %v, %v, not %v", i, got, e, c.e)
		}
	}
}

// TestP72Read holds what Under tells, and Kids and Within, against the test's own reading.
func TestP72Read(t *testing.T) {
	upTo := numbers()
	for range 5000 {
		l := madeUp(upTo)
		for i := range l {
			if got, e := table.Under(l, i); !slices.Equal(got, under(l, i)) || e != api.OK || table.Check(got) != api.OK {
				t.Fatalf("Under(%v, %d): %v, %v, not %v", l, i, got, e, under(l, i))
			}
			if got := table.Kids(l, i); !slices.Equal(got, kids(l, i)) {
				t.Fatalf("Kids(%v, %d): %v", l, i, got)
			}
			all := below(l, i)
			for k := range l {
				if table.Within(l, k, i) != slices.Contains(all, k) {
					t.Fatalf("Within(%v, %d, %d) is not %v", l, k, i, all)
				}
			}
		}
	}
}

// --- P7.3

func TestP73Print(t *testing.T) {
	for _, c := range []struct {
		l []api.Row
		s string
	}{
		{[]api.Row{root(0, api.Value, 5, 3, ""), row(0, 1, 1, api.Cancelled, 0, 0, "")}, "- 0 0 value 5 3 -\n0 1 1 cancelled 0 0 -\n"},
		{some(), "- 0 0 running 0 4 01\n0 0 1 value -7 2 -\n1 2 2 panicked 3 1 1\n0 1 31 running 0 1048576 -\n3 5 4 cancelled 0 9 0\n0 1 5 pending 0 0 -\n"},
		{[]api.Row{root(0, api.Value, math.MinInt64, 0, "0")}, "- 0 0 value -9223372036854775808 0 0\n"},
		{[]api.Row{root(0, api.Panicked, math.MaxInt64, 0, "00")}, "- 0 0 panicked 9223372036854775807 0 00\n"},
		{[]api.Row{plain(-1, 1), row(0, math.MaxInt, 0, 0, 0, 0, "")}, "- 0 0 running 0 0 -\n0 9223372036854775807 0 pending 0 0 -\n"},
	} {
		if s, e := table.Print(c.l); s != c.s || e != api.OK {
			t.Errorf("Print(%v): %q, %v, not %q", c.l, s, e, c.s)
		}
		if l, at, e := table.Parse(c.s); !slices.Equal(l, c.l) || at != 0 || e != api.OK {
			t.Errorf("Parse(%q): %v, %d, %v, not %v", c.s, l, at, e, c.l)
		}
	}
}

// long is a table whose text has so many bytes, and the text.
func long(n int) ([]api.Row, string) {
	head := "- 0 0 running 0 0 "
	closes := strings.Repeat("1", n-len(head)-1)
	return []api.Row{root(0, api.Running, 0, 0, closes)}, head + closes + "\n"
}

// wide is a table of many rows, whose text has so many bytes; the last row is as long as need be.
func wide(n int) ([]api.Row, string) {
	head, line := "- 0 0 running 0 0 -\n", "0 0 0 running 0 0 -\n"
	more := (n - len(head)) / len(line)
	last := "0 0 0 running 0 0 " + strings.Repeat("0", 1+(n-len(head))%len(line)) + "\n"
	l := slices.Concat([]api.Row{plain(-1, 1)}, slices.Repeat([]api.Row{plain(0, 1)}, more))
	l[more].Closes = last[18 : len(last)-1]
	return l, head + strings.Repeat(line, more-1) + last
}

func TestP73Long(t *testing.T) {
	for _, of := range []func(int) ([]api.Row, string){long, wide} {
		for _, n := range []int{131071, 131072} {
			l, want := of(n)
			if s, e := table.Print(l); len(want) != n || s != want || e != api.OK {
				t.Errorf("Print of %d bytes: %v", n, e)
			}
			if m, at, e := table.Parse(want); !slices.Equal(l, m) || at != 0 || e != api.OK {
				t.Errorf("Parse of %d bytes: %d, %v", n, at, e)
			}
		}
		for _, n := range []int{131073, 300000} {
			l, want := of(n)
			if s, e := table.Print(l); len(want) != n || s != "" || e != api.ErrLong {
				t.Errorf("Print of %d bytes: %v", n, e)
			}
			if m, at, e := table.Parse(want); len(m) != 0 || at != 0 || e != api.ErrLong {
				t.Errorf("Parse of %d bytes: %d, %v", n, at, e)
			}
			l[len(l)-1].Func = -1 // what Check tells stands ahead of that
			if s, e := table.Print(l); s != "" || e != api.ErrRange {
				t.Errorf("Print of %d bytes that are no table: %v", n, e)
			}
		}
	}
}

func TestP73Errors(t *testing.T) {
	wrong := some()
	wrong[5].Kind = 5
	for i, c := range []struct {
		l []api.Row
		e api.Errno
	}{
		{nil, api.ErrNone},
		{[]api.Row{}, api.ErrNone},
		{some()[1:], api.ErrForm},
		{wrong, api.ErrRange},
		{[]api.Row{plain(-1, -1)}, api.ErrRange},
		{[]api.Row{root(0, 1, 1, 0, "")}, api.ErrState},
		{[]api.Row{root(0, 1, 0, 0, "-")}, api.ErrForm},
	} {
		if s, e := table.Print(c.l); s != "" || e != c.e {
			t.Errorf("%d: Print: %q, %v, not %v", i, s, e, c.e)
		}
	}
}

// --- P7.4

func TestP74Errors(t *testing.T) {
	const head = "- 0 0 running 0 1 -\n"
	huge := strings.Repeat("9", 1000)
	for _, c := range []struct {
		s  string
		at int
		e  api.Errno
	}{
		{"", 0, api.ErrNone},
		// lines
		{"\n", 1, api.ErrForm},
		{" \n", 1, api.ErrForm},
		{"x", 1, api.ErrForm},
		{"- 0 0 running 0 1 -", 1, api.ErrForm},
		{head + "0 0 0 running 0 1 -", 2, api.ErrForm},
		{head + "0 0 0 wrong 0 1 -", 2, api.ErrForm},
		{head + " ", 2, api.ErrForm},
		{head + "\n", 2, api.ErrForm},
		{"\n" + head, 1, api.ErrForm},
		{"- 0 0 running 0 1 -\r", 1, api.ErrForm},
		{"- 0 0 running 0 1 -\x00", 1, api.ErrForm},
		{"- 0 0 running 0 1 -\r\n", 1, api.ErrForm}, // a last word that is another one
		// words
		{"- 0 0 running 0 1\n", 1, api.ErrForm},
		{"- 0 0 running 0 1 - -\n", 1, api.ErrForm},
		{"- 0 0 running 0 1 - \n", 1, api.ErrForm},
		{" - 0 0 running 0 1 -\n", 1, api.ErrForm},
		{"-  0 0 running 0 1 -\n", 1, api.ErrForm},
		{"-\t0 0 running 0 1 -\n", 1, api.ErrForm},
		{"- 0 32 wrong 0 1\n", 1, api.ErrForm},
		{"- 0 32 wrong 0 1" + strings.Repeat(" ", 100000) + "\n", 1, api.ErrForm},
		// the first one
		{" 0 0 running 0 1 -\n", 1, api.ErrForm}, // seven words, the first one without bytes
		{"-- 0 0 running 0 1 -\n", 1, api.ErrForm},
		{"+ 0 0 running 0 1 -\n", 1, api.ErrForm},
		{"-1 0 0 running 0 1 -\n", 1, api.ErrForm},
		{"-0 0 0 running 0 1 -\n", 1, api.ErrForm},
		{"0 0 0 running 0 1 -\n", 1, api.ErrForm},
		{"00 0 0 running 0 1 -\n", 1, api.ErrForm},
		{"x 0 0 running 0 1 -\n", 1, api.ErrForm},
		{"- - 0 running 0 1 -\n", 1, api.ErrForm},
		{"-9223372036854775808 0 0 running 0 1 -\n", 1, api.ErrForm},
		{"-9223372036854775809 0 0 running 0 1 -\n", 1, api.ErrRange},
		{"9223372036854775807 0 0 running 0 1 -\n", 1, api.ErrForm},
		{"9223372036854775808 0 0 running 0 1 -\n", 1, api.ErrRange},
		{"18446744073709551615 0 0 running 0 1 -\n", 1, api.ErrRange}, // -1, if it went round
		{head + "-1 0 0 running 0 1 -\n", 2, api.ErrForm},
		{head + "- 0 0 running 0 1 -\n", 2, api.ErrForm},
		{head + "1 0 0 running 0 1 -\n", 2, api.ErrForm},
		{head + "2 0 0 running 0 1 -\n", 2, api.ErrForm},
		// numbers
		{"- x 0 running 0 1 -\n", 1, api.ErrForm},
		{"- 00 0 running 0 1 -\n", 1, api.ErrForm},
		{"- -0 0 running 0 1 -\n", 1, api.ErrForm},
		{"- +0 0 running 0 1 -\n", 1, api.ErrForm},
		{"- 0x1 0 running 0 1 -\n", 1, api.ErrForm},
		{"- 1_0 0 running 0 1 -\n", 1, api.ErrForm},
		{"- 1 0 running 0 1 -\n", 1, api.ErrRange},
		{"- -1 0 running 0 1 -\n", 1, api.ErrRange},
		{"- 18446744073709551616 0 running 0 1 -\n", 1, api.ErrRange}, // 0, if it went round
		{"- 0 01 running 0 1 -\n", 1, api.ErrForm},
		{"- 0 32 running 0 1 -\n", 1, api.ErrRange},
		{"- 0 -1 running 0 1 -\n", 1, api.ErrRange},
		{"- 0 4294967296 running 0 1 -\n", 1, api.ErrRange},
		{"- 0 18446744073709551616 running 0 1 -\n", 1, api.ErrRange},
		{"- 0 0 value -0 1 -\n", 1, api.ErrForm},
		{"- 0 0 value - 1 -\n", 1, api.ErrForm},
		{"- 0 0 value --1 1 -\n", 1, api.ErrForm},
		{"- 0 0 value +1 1 -\n", 1, api.ErrForm},
		{"- 0 0 value -01 1 -\n", 1, api.ErrForm},
		{"- 0 0 value 1- 1 -\n", 1, api.ErrForm},
		{"- 0 0 value 1.0 1 -\n", 1, api.ErrForm},
		{"- 0 0 value 1/ 1 -\n", 1, api.ErrForm},
		{"- 0 0 value 1: 1 -\n", 1, api.ErrForm},
		{"- 0 0 value ٠ 1 -\n", 1, api.ErrForm},
		{"- 0 0 value  1 -\n", 1, api.ErrForm},
		{"- 0 0 value 9223372036854775808 1 -\n", 1, api.ErrRange},
		{"- 0 0 value -9223372036854775809 1 -\n", 1, api.ErrRange},
		{"- 0 0 value " + huge + " 1 -\n", 1, api.ErrRange},
		{"- 0 0 value -" + huge + " 1 -\n", 1, api.ErrRange},
		{"- 0 0 value " + huge + "x 1 -\n", 1, api.ErrForm},
		{"- 0 0 value 0" + huge + " 1 -\n", 1, api.ErrForm},
		{"- 0 0 running 1 1 -\n", 1, api.ErrState},
		{"- 0 0 running 0 -1 -\n", 1, api.ErrRange},
		{"- 0 0 running 0 -0 -\n", 1, api.ErrForm},
		{"- 0 0 running 0  -\n", 1, api.ErrForm},
		{"- 0 0 running 0 - -\n", 1, api.ErrForm},
		{"- 0 0 running 0 1048577 -\n", 1, api.ErrRange},
		{"- 0 0 pending 0 1 -\n", 1, api.ErrState},
		{"- 0 0 pending 0 0 0\n", 1, api.ErrState},
		// kinds
		{"- 0 0 Value 0 1 -\n", 1, api.ErrName},
		{"- 0 0 values 0 1 -\n", 1, api.ErrName},
		{"- 0 0 valu 0 1 -\n", 1, api.ErrName},
		{"- 0 0 2 0 1 -\n", 1, api.ErrName},
		{"- 0 0 -  1 -\n", 1, api.ErrName},
		{"- 0 0  0 1 -\n", 1, api.ErrName},
		// of the words in order the first one that is wrong
		{"-1 99999999999999999999 0 running 0 1 -\n", 1, api.ErrForm},
		{"99999999999999999999 x 0 running 0 1 -\n", 1, api.ErrRange},
		{"- x 99999999999999999999 running 0 1 -\n", 1, api.ErrForm},
		{"- 0 99999999999999999999 wrong 0 1 -\n", 1, api.ErrRange},
		{"- 0 x wrong 0 1 -\n", 1, api.ErrForm},
		{"- 0 0 wrong x 1 -\n", 1, api.ErrName},
		{"- 0 0 wrong 0 99999999999999999999 -\n", 1, api.ErrName},
		{"- 0 0 value 99999999999999999999 x -\n", 1, api.ErrRange},
		{"- 0 0 value x 99999999999999999999 -\n", 1, api.ErrForm},
		// words, ahead of the row
		{"0 0 0 wrong 0 1 -\n", 1, api.ErrName},
		{"- 32 32 value x 1 -\n", 1, api.ErrForm},
		{"- 0 32 wrong 0 1 -\n", 1, api.ErrName},
		// the last word, by the row alone
		{"- 0 0 running 0 1 \n", 1, api.ErrForm},
		{"- 0 0 running 0 1 --\n", 1, api.ErrForm},
		{"- 0 0 running 0 1 0-\n", 1, api.ErrForm},
		{"- 0 0 running 0 1 2\n", 1, api.ErrForm},
		{"- 0 0 running 0 1 01x\n", 1, api.ErrForm},
		{"- 1 0 running 0 1 x\n", 1, api.ErrRange},
		{"- 1 0 running 0 1 \n", 1, api.ErrRange}, // at its place: behind ranges
		{"- 0 0 running 1 1 \n", 1, api.ErrForm},  // and ahead of states
		{"- 0 0 pending 0 1 \n", 1, api.ErrForm},
		{"- 0 0 wrong 0 1 \n", 1, api.ErrName},
		{"- 0 0 running 99999999999999999999 1 \n", 1, api.ErrRange},
		// rows, by those ahead of them
		{head + "0 0 0 running 0 1 -\n1 0 0 value 0 1 -\n1 0 0 value 0 1 -\n2 0 0 value 0 1 -\n", 5, api.ErrForm},
		{head + "0 0 0 value 0 1 -\n1 0 0 running 0 1 -\n", 3, api.ErrState},
		{head + "0 0 0 pending 0 0 -\n1 0 0 value 0 1 -\n", 3, api.ErrState},
		{head + "0 -1 0 running 0 1 -\nx\n", 2, api.ErrRange},
		{head + head + "x", 2, api.ErrForm},
	} {
		if l, at, e := table.Parse(c.s); len(l) != 0 || at != c.at || e != c.e {
			t.Errorf("Parse(%.60q): %v, %d, %v, not %d, %v", c.s, l, at, e, c.at, c.e)
		}
	}
}

func TestP74Long(t *testing.T) {
	for _, c := range []struct {
		s  string
		at int
		e  api.Errno
	}{
		{strings.Repeat("\n", 131072), 1, api.ErrForm},
		{strings.Repeat("\n", 131073), 0, api.ErrLong},
		{strings.Repeat(" ", 131072), 1, api.ErrForm},
		{strings.Repeat("x", 131073), 0, api.ErrLong},
		{"- 0 0 value " + strings.Repeat("1", 131072-18) + " 1 -\n", 1, api.ErrRange},
		{strings.Repeat("x", 1<<22), 0, api.ErrLong},
	} {
		if l, at, e := table.Parse(c.s); len(l) != 0 || at != c.at || e != c.e {
			t.Errorf("Parse(%.20q): %d, %v, not %d, %v", c.s, at, e, c.at, c.e)
		}
	}
}

// smudged is a text of which one byte is turned, taken out, or put in, a piece is cut, a word is another one, or a line is doubled.
func smudged(upTo func(int) int, s string) string {
	at, end := upTo(len(s)), upTo(len(s)+1)
	by := one(upTo, strings.Split(" -0123+\nxvaluerunningpendingcancelledpanicked", "")...)
	switch upTo(7) {
	case 0:
		return s[:at] + by + s[at+1:]
	case 1:
		return s[:at] + s[at+1:]
	case 2:
		return s[:end] + by + s[end:]
	case 3:
		return s[:at]
	case 4:
		lines := strings.SplitAfter(s, "\n")
		k := upTo(len(lines))
		return strings.Join(slices.Insert(lines, k, lines[upTo(len(lines))]), "")
	}
	words := strings.Split(s, " ")
	words[upTo(len(words))] = one(upTo, "", "-", "0", "1", "-1", "-0", "2", "00", "31", "32", "1048576", "1048577", "9223372036854775807", "-9223372036854775808", "9223372036854775808", "-9223372036854775809", "99999999999999999999", "pending", "running", "value", "panicked", "cancelled", "word", "01", "x")
	return strings.Join(words, " ")
}

// TestP74Read holds what Parse tells of texts of which something is turned against the test's own reading.
func TestP74Read(t *testing.T) {
	upTo := numbers()
	seen, places := map[api.Errno]int{}, map[int]int{}
	for range 30000 {
		s := written(madeUp(upTo))
		for range 1 + upTo(2) {
			if s != "" {
				s = smudged(upTo, s)
			}
		}
		l, at, e := table.Parse(s)
		m, place, f := parsed(s)
		if !slices.Equal(l, m) || at != place || e != f {
			t.Fatalf("Parse(%q): %v, %d, %v, not %v, %d, %v", s, l, at, e, m, place, f)
		}
		seen[e]++
		places[at]++
		if e != api.OK {
			continue
		}
		if r, e := table.Print(l); e != api.OK || r != s {
			t.Fatalf("Parse(%q): printed, it is %q, %v", s, r, e)
		}
	}
	for _, e := range []api.Errno{api.OK, api.ErrForm, api.ErrName, api.ErrRange, api.ErrState} {
		if seen[e] < 300 {
			t.Errorf("%v was answered %d times", e, seen[e])
		}
	}
	if places[1] < 500 || places[2] < 500 || places[5] < 100 {
		t.Error(places)
	}
}

// --- P7.5

func TestP75Grown(t *testing.T) {
	for i, c := range []struct {
		turn func(m []api.Row) []api.Row
		is   bool
	}{
		{func(m []api.Row) []api.Row { return m }, true},
		// one that is no table
		{func(m []api.Row) []api.Row { return nil }, false},
		{func(m []api.Row) []api.Row { return m[:0] }, false},
		{func(m []api.Row) []api.Row { m[5].V = 1; return m }, false},
		{func(m []api.Row) []api.Row { m[0].In = 1; return m }, false},
		{func(m []api.Row) []api.Row { return append(m, plain(5, 0)) }, false},
		// of which function, and in which scope
		{func(m []api.Row) []api.Row { m[0].Func = 1; return m }, false},
		{func(m []api.Row) []api.Row { m[1].Func = 2; return m }, false},
		{func(m []api.Row) []api.Row { m[3].Func = 2; return m }, false},
		{func(m []api.Row) []api.Row { m[5].Func = 2; return m }, false},
		{func(m []api.Row) []api.Row { m[1].In = 1; return m }, false},
		{func(m []api.Row) []api.Row { m[3].In = 2; return m }, false},
		{func(m []api.Row) []api.Row { m[5].In = 0; return m }, false},
		// kids
		{func(m []api.Row) []api.Row { return m[:5] }, false},
		{func(m []api.Row) []api.Row { return m[:1] }, false},
		{func(m []api.Row) []api.Row { return append(m, plain(0, 0)) }, true},
		{func(m []api.Row) []api.Row { return append(m, plain(0, 2), plain(6, 3), plain(0, 0)) }, true},
		{func(m []api.Row) []api.Row { return slices.Insert(m, 5, plain(3, 1), plain(5, 0)) }, true},
		{func(m []api.Row) []api.Row { return slices.Insert(m, 4, plain(3, 0)) }, false}, // ahead of a kid that was there
		{func(m []api.Row) []api.Row { return slices.Insert(m, 4, plain(3, 2), plain(4, 2)) }, false},
		{func(m []api.Row) []api.Row { m[5].Kind = 1; return append(m, plain(5, 0), plain(5, 0), plain(0, 0)) }, true},
		{func(m []api.Row) []api.Row { return slices.Insert(m, 3, plain(1, 2)) }, false}, // a kid more of one that has come to something
		{func(m []api.Row) []api.Row { return slices.Insert(m, 3, plain(2, 2)) }, false},
		{func(m []api.Row) []api.Row { return slices.Delete(m, 2, 3) }, false},
		{func(m []api.Row) []api.Row { return slices.Delete(m, 4, 5) }, false},
		{func(m []api.Row) []api.Row { m[2].Parent = 0; return m }, false},
		{func(m []api.Row) []api.Row { m[5].Parent = 3; return m }, false},
		// what has come to something
		{func(m []api.Row) []api.Row { m[1].Kind = 3; return m }, false},
		{func(m []api.Row) []api.Row { m[4].Kind = 2; return m }, false},
		{func(m []api.Row) []api.Row { m[4].Kind = 1; return m }, false},
		{func(m []api.Row) []api.Row { m[4] = row(3, 5, 4, 0, 0, 0, ""); return m }, false},
		{func(m []api.Row) []api.Row { m[1].V = 7; return m }, false},
		{func(m []api.Row) []api.Row { m[2].V = 4; return m }, false},
		{func(m []api.Row) []api.Row { m[2].Steps = 2; return m }, false},
		{func(m []api.Row) []api.Row { m[2].Closes = "10"; return m }, false},
		{func(m []api.Row) []api.Row { m[1].Closes = "0"; return m }, false},
		{func(m []api.Row) []api.Row { m[4].Closes = ""; return m }, false},
		// what runs
		{func(m []api.Row) []api.Row { m[0].Steps = 5; return m }, true},
		{func(m []api.Row) []api.Row { m[0].Steps = 3; return m }, false},
		{func(m []api.Row) []api.Row { m[3].Steps = 1048575; return m }, false},
		{func(m []api.Row) []api.Row { m[0].Closes = "010"; return m }, true},
		{func(m []api.Row) []api.Row { m[0].Closes = "0110110"; return m }, true},
		{func(m []api.Row) []api.Row { m[0].Closes = "00"; return m }, false},
		{func(m []api.Row) []api.Row { m[0].Closes = "0"; return m }, false},
		{func(m []api.Row) []api.Row { m[0].Closes = "101"; return m }, false},
		{func(m []api.Row) []api.Row { m[3].Closes = "1"; return m }, true},
		{func(m []api.Row) []api.Row { m[3].Kind, m[3].V = 2, 9; return m }, true},
		{func(m []api.Row) []api.Row { m[3].Kind, m[3].V = 3, 9; return m }, true},
		{func(m []api.Row) []api.Row { m[3].Kind = 4; return m }, true},
		{func(m []api.Row) []api.Row { m[3].Kind, m[3].Steps = 4, 0; return m }, false},
		{func(m []api.Row) []api.Row { m[0].Kind, m[3].Kind, m[5].Kind = 2, 4, 3; return m }, true},
		{func(m []api.Row) []api.Row { m[0].Kind, m[0].Closes, m[3].Kind, m[5].Kind = 2, "", 4, 3; return m }, false},
		{func(m []api.Row) []api.Row { m[3].Steps, m[3].Kind, m[3].Closes = 0, 0, ""; return m[:4] }, false},
		// what has not begun
		{func(m []api.Row) []api.Row { m[5].Kind = 1; return m }, true},
		{func(m []api.Row) []api.Row { m[5].Kind, m[5].Steps, m[5].Closes = 1, 7, "11"; return m }, true},
		{func(m []api.Row) []api.Row { m[5].Kind, m[5].V, m[5].Steps, m[5].Closes = 3, 1, 7, "11"; return m }, true},
		{func(m []api.Row) []api.Row { m[5].Kind = 4; return m }, true},
	} {
		m := c.turn(some())
		if table.Grown(some(), m) != c.is {
			t.Errorf("%d: Grown to %v is not %v", i, m, c.is)
		}
		if grown(some(), m) != c.is {
			t.Errorf("%d: as the test reads it, %v is not %v", i, m, c.is)
		}
	}
}

func TestP75Small(t *testing.T) {
	pending, runs := plain(-1, 0), plain(-1, 1)
	for i, c := range []struct {
		l, m []api.Row
		is   bool
	}{
		{nil, nil, false},
		{nil, []api.Row{pending}, false},
		{[]api.Row{pending}, nil, false},
		{[]api.Row{plain(0, 0)}, []api.Row{plain(0, 0)}, false},
		{[]api.Row{plain(-1, 5)}, []api.Row{plain(-1, 5)}, false},
		{[]api.Row{pending}, []api.Row{plain(0, 0)}, false},
		{[]api.Row{plain(0, 0)}, []api.Row{pending}, false},
		{[]api.Row{pending}, []api.Row{pending}, true},
		{[]api.Row{pending}, []api.Row{runs, plain(0, 1), plain(1, 0)}, true},
		{[]api.Row{runs}, []api.Row{pending}, false},
		{[]api.Row{runs, plain(0, 0)}, []api.Row{pending}, false},
		{[]api.Row{runs, plain(0, 0)}, []api.Row{runs}, false},
		// a kid's kids move its brother on
		{[]api.Row{runs, plain(0, 1), row(0, 1, 0, 0, 0, 0, "")}, []api.Row{runs, plain(0, 1), plain(1, 1), plain(2, 1), row(0, 1, 0, 2, 0, 0, "")}, true},
		{[]api.Row{runs, plain(0, 1), row(0, 1, 0, 0, 0, 0, "")}, []api.Row{runs, plain(0, 1), row(1, 1, 0, 2, 0, 0, ""), row(0, 2, 0, 0, 0, 0, "")}, false},
		{[]api.Row{runs, plain(0, 1), plain(1, 2), plain(0, 2)}, []api.Row{runs, plain(0, 1), plain(1, 2), plain(1, 2), plain(0, 2)}, true},
		{[]api.Row{runs, plain(0, 1), plain(1, 1), plain(0, 1)}, []api.Row{runs, plain(0, 1), plain(0, 1), plain(2, 1)}, false},
	} {
		if table.Grown(c.l, c.m) != c.is {
			t.Errorf("%d: Grown of %v, to %v, is not %v", i, c.l, c.m, c.is)
		}
	}
}

// TestP75Read holds what Grown tells against the test's own reading, of tables that became others, and of others of which something is turned.
func TestP75Read(t *testing.T) {
	upTo := numbers()
	seen := map[bool]int{}
	for range 15000 {
		l := madeUp(upTo)
		m := l
		for range upTo(3) {
			m = later(upTo, m)
		}
		if !table.Grown(l, m) {
			t.Fatalf("Grown(%v, %v) is not true", l, m)
		}
		for range 1 + upTo(2) {
			m = turned(upTo, m)
		}
		for _, c := range [][2][]api.Row{{l, m}, {m, l}, {l, madeUp(upTo)}} {
			got := table.Grown(c[0], c[1])
			if got != grown(c[0], c[1]) {
				t.Fatalf("Grown(%v, %v) is %v", c[0], c[1], got)
			}
			seen[got]++
		}
	}
	if seen[true] < 2000 || seen[false] < 2000 {
		t.Error(seen)
	}
}

// --- P7.6

func TestP76Text(t *testing.T) {
	upTo := numbers()
	for range 10000 {
		l := madeUp(upTo)
		s, e := table.Print(l)
		if s != written(l) || e != api.OK {
			t.Fatalf("Print(%v): %q, %v", l, s, e)
		}
		m, at, e := table.Parse(s)
		if !slices.Equal(l, m) || at != 0 || e != api.OK {
			t.Fatalf("Parse(%q): %v, %d, %v, not %v", s, m, at, e, l)
		}
	}
}

// states is rows as they may stand, of few numbers.
func states() []api.Row {
	l := []api.Row{{}}
	for kind := api.Running; kind <= api.Cancelled; kind++ {
		for _, steps := range []int{0, 1} {
			for _, closes := range []string{"", "0", "01"} {
				l = append(l, api.Row{Kind: kind, Steps: steps, Closes: closes})
			}
		}
	}
	return append(l, api.Row{Kind: api.Value, V: 1}, api.Row{Func: 1}, api.Row{Func: 1, Kind: api.Running}, api.Row{In: 1}, api.Row{In: 1, Kind: api.Running})
}

// few is all tables of one row or two of those, and of three of which nothing matters but how they stand.
func few() [][]api.Row {
	var all [][]api.Row
	put := func(l ...api.Row) {
		if _, e := checked(l); e == api.OK {
			all = append(all, l)
		}
	}
	for _, r := range states() {
		r.Parent = -1
		put(r)
		for _, kid := range states() {
			if r.Closes == "" {
				put(r, kid)
			}
		}
	}
	for n := range 5 * 5 * 5 {
		a, b, c := n%5, n/5%5, n/25
		put(plain(-1, a), plain(0, b), plain(0, c))
		put(plain(-1, a), plain(0, b), plain(1, c))
	}
	return all
}

func TestP76Order(t *testing.T) {
	all := few()
	to := make([][]bool, len(all))
	count := 0
	for i, l := range all {
		to[i] = make([]bool, len(all))
		for j, m := range all {
			to[i][j] = table.Grown(l, m)
			if to[i][j] {
				count++
			}
			if to[i][j] != grown(l, m) {
				t.Fatalf("Grown(%v, %v) is %v", l, m, to[i][j])
			}
		}
	}
	for i, l := range all {
		if !to[i][i] {
			t.Errorf("%v is not grown of itself", l)
		}
		for j, m := range all {
			if !to[i][j] {
				continue
			}
			if to[j][i] && !slices.Equal(l, m) {
				t.Errorf("%v and %v each became the other one", l, m)
			}
			for k, n := range all {
				if to[j][k] && !to[i][k] {
					t.Errorf("%v became %v, and that %v, but the first one not the last one", l, m, n)
				}
			}
		}
	}
	if len(all) < 300 || count < 4*len(all) {
		t.Error("too few are tried:", len(all), count)
	}
}

func TestP76Later(t *testing.T) {
	upTo := numbers()
	for range 3000 {
		l := [][]api.Row{madeUp(upTo)}
		for k := range 5 {
			l = append(l, later(upTo, l[k]))
		}
		for i := range l {
			for j := range l {
				same := slices.Equal(l[i], l[j])
				if i <= j && !table.Grown(l[i], l[j]) || i > j && table.Grown(l[i], l[j]) != same {
					t.Fatalf("Grown(%v, %v) is %v", l[i], l[j], i > j)
				}
			}
		}
	}
}

// --- rules that hold everywhere

// TestMany hands in tables of many rows, deep and wide: each call takes as long as its rows are many, no more.
func TestMany(t *testing.T) {
	const n = 200000
	deep, comb := []api.Row{plain(-1, 1)}, []api.Row{plain(-1, 1)}
	for k := range n {
		deep = append(deep, plain(k, 1))
		comb = append(comb, plain(k-k%2, 1))
	}
	wide := slices.Concat(deep[:n/2], slices.Repeat([]api.Row{plain(0, 1)}, n/2))
	for i, l := range [][]api.Row{deep, comb, wide} {
		m := append(slices.Clone(l), plain(0, 0))
		if table.Check(l) != api.OK || !table.Grown(l, m) || table.Grown(m, l) || table.Done(l) || !table.Within(l, len(l)-1, 0) {
			t.Error(i)
		}
		if u, e := table.Under(l, 1); u[0] != plain(-1, 1) || e != api.OK {
			t.Error(i, e)
		}
		if s, e := table.Print(l); s != "" || e != api.ErrLong {
			t.Error(i, e)
		}
		l[len(l)-1].Parent = -1
		if e := table.Check(l); e != api.ErrForm {
			t.Error(i, e)
		}
	}
}

// TestMemory holds what is handed in, and what lies behind its length, against what it was (R2), and what is answered against what is answered then (R3).
func TestMemory(t *testing.T) {
	l := append(some(), plain(9, 9), plain(8, 8))[:6]
	was := slices.Clone(l[:8])
	m := append(some(), plain(0, 0))
	table.Check(l)
	table.Done(l)
	table.Within(l, 2, 0)
	table.Grown(l, m)
	table.Grown(m, l)
	kids := table.Kids(l, 0)
	u, _ := table.Under(l, 0)
	v, _ := table.Under(l, 3)
	s, _ := table.Print(l)
	p, _, _ := table.Parse(s)
	if !slices.Equal(l[:8], was) {
		t.Error("what is handed in is written into")
	}
	clear(kids)
	clear(u)
	clear(v)
	clear(p)
	if !slices.Equal(l[:8], was) {
		t.Error("what is answered is what was handed in")
	}
	if again, _ := table.Under(l, 0); !slices.Equal(again, some()) {
		t.Error(again)
	}
	if again, _, _ := table.Parse(s); !slices.Equal(again, some()) {
		t.Error(again)
	}
	if again := table.Kids(l, 0); !slices.Equal(again, []int{1, 3, 5}) {
		t.Error(again)
	}
}
