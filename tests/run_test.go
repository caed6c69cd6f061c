package tests

import (
	"math"
	"slices"
	"strconv"
	"strings"
	"testing"

	"loop.example/s0043/impl"
)

func sameRows(a, b [][]int) bool {
	return slices.EqualFunc(a, b, func(x, y []int) bool { return slices.Equal(x, y) })
}

func wantRows(t *testing.T, p impl.Program, node string, rows, want [][]int) {
	t.Helper()
	got, code := impl.Run(p, node, rows)
	if code != impl.RunOK || !sameRows(got, want) {
		t.Errorf("code %d, rows %v of %s give\n%v, asked for\n%v of\n%s", code, rows, node, got, want, short(impl.Print(p)))
	}
}

// Promise 4, held against the second reading.
func TestRunOfPassingPrograms(t *testing.T) {
	for seed := range int64(4000) {
		p := passing(seed)
		wantCheck(t, impl.Print(p), p, impl.CheckOK, 0, 0)
		m := newMaker(seed)
		for _, n := range p.Nodes {
			rows := m.rowsFor(n, m.Intn(9))
			wantRows(t, p, n.Name, rows, readStreams(p, n, rows))
		}
	}
}

// Programs that still pass when something in them is changed come out less even than those of the maker.
func TestRunOfDamagedPrograms(t *testing.T) {
	runs := 0
	for seed := range int64(8000) {
		m := newMaker(seed)
		p := m.damaged(passing(seed/4), 2)
		if code, _, _ := impl.Check(p); code != impl.CheckOK {
			continue
		}
		for _, n := range p.Nodes {
			rows := m.rowsFor(n, 7)
			wantRows(t, p, n.Name, rows, readStreams(p, n, rows))
			runs++
		}
	}
	if runs < 500 {
		t.Error("too few programs", runs)
	}
}

var ends = []int{math.MinInt32, math.MinInt32 + 1, -65537, -65536, -7, -3, -2, -1, 0, 1, 2, 3, 7, 46341, 65536, math.MaxInt32 - 1, math.MaxInt32}

// Every operator of two operands, on all pairs of such values.
func TestRunOperators(t *testing.T) {
	for o := impl.OpAdd; o <= impl.OpXor; o++ {
		for _, kind := range []int{impl.TypeInt, impl.TypeBool} {
			values := ends
			if kind == impl.TypeBool {
				values = []int{0, 1}
			}
			for _, out := range []int{impl.TypeInt, impl.TypeBool} {
				if !slices.Contains(rules[o], strings.Repeat(".ib"[kind:][:1], 2)+".ib"[out:][:1]) {
					continue
				}
				n := impl.Node{Name: "f", Ins: []impl.Var{{Name: "x", Type: kind}, {Name: "y", Type: kind}},
					Outs: []impl.Var{{Name: "z", Type: out}}, Eqs: []impl.Equation{plain("z", name("x"), name("y"), op(o))}}
				var rows, want [][]int
				for _, x := range values {
					for _, y := range values {
						rows = append(rows, []int{x, y})
						want = append(want, []int{result(op(o), []int{x, y})})
					}
				}
				wantRows(t, impl.Program{Nodes: []impl.Node{n}}, "f", rows, want)
			}
		}
	}
}

func TestRunSingleOperators(t *testing.T) {
	p := parsed(t, "node f(x: int; b: bool) returns (y: int; n: bool; i: int) let y = - x; n = not b; i = if b then x else - 5; tel")
	wantRows(t, p, "f", [][]int{{math.MinInt32, 0}, {math.MaxInt32, 1}, {0, 0}, {-1, 1}},
		[][]int{{math.MinInt32, 1, -5}, {-math.MaxInt32, 0, math.MaxInt32}, {0, 1, -5}, {1, 0, -1}})
}

// The ends of the range, in numbers.
func TestRunWraps(t *testing.T) {
	p := parsed(t, "node f(x: int; y: int) returns (a: int; s: int; m: int; d: int; r: int) let a = x + y; s = x - y; m = x * y; d = x / y; r = x mod y; tel")
	const least, most = -2147483648, 2147483647
	wantRows(t, p, "f",
		[][]int{{most, 1}, {least, 1}, {least, -1}, {least, least}, {most, most}, {65536, 65536}, {65536, 32768}, {7, -2}, {-7, 2}, {-7, -2}, {5, 0}, {least, 0}, {0, 0}, {46341, 46341}},
		[][]int{
			{least, 2147483646, most, most, 0},
			{-2147483647, most, least, least, 0},
			{most, -2147483647, least, least, 0},
			{0, 0, 0, 1, 0},
			{-2, 0, 1, 1, 0},
			{131072, 0, 0, 1, 0},
			{98304, 32768, least, 2, 0},
			{5, 9, -14, -3, 1},
			{-5, -9, -14, -3, -1},
			{-9, -5, 14, 3, -1},
			{5, 5, 0, 0, 0},
			{least, least, 0, 0, 0},
			{0, 0, 0, 0, 0},
			{92682, 0, -2147479015, 1, 0},
		})
	big := parsed(t, "node f() returns (z: int; w: int) let z = 2147483647 + (-2147483647 fby 2147483647); w = - 2147483647 - 1; tel")
	wantRows(t, big, "f", [][]int{{}, {}}, [][]int{{0, least}, {-2, least}})
}

func TestRunFby(t *testing.T) {
	cases := []struct {
		node       string
		rows, want [][]int
	}{
		{"f(x: int) returns (y: int) let y = -5 fby x; tel", [][]int{{1}, {2}, {3}}, [][]int{{-5}, {1}, {2}}},
		{"f(x: bool) returns (y: bool) let y = true fby x; tel", [][]int{{0}, {1}, {0}}, [][]int{{1}, {0}, {1}}},
		{"f(x: int) returns (y: int) let y = 1 fby 2 fby 3 fby x; tel", [][]int{{7}, {8}, {9}, {0}, {0}}, [][]int{{1}, {2}, {3}, {7}, {8}}},
		{"f(x: int) returns (y: int) let y = x - (10 fby x); tel", [][]int{{7}, {8}, {4}}, [][]int{{-3}, {1}, {-4}}},
		{"f(x: int) returns (y: int) let y = (0 fby y) + x + (100 fby (x + (1000 fby x))); tel", [][]int{{1}, {2}, {3}}, [][]int{{101}, {1104}, {1110}}},
		// In the branches of a merge each counts its own instants; around it, and under a when, all of them.
		{"f(c: bool; x: int) returns (y: int) let y = merge c (0 fby (x when c)) (100 fby (x whenot c)); tel",
			[][]int{{1, 1}, {0, 2}, {0, 3}, {1, 4}, {1, 5}, {0, 6}}, [][]int{{0}, {100}, {2}, {1}, {4}, {3}}},
		{"f(c: bool; x: int) returns (y: int) let y = 9 fby merge c (x when c) (- x whenot c); tel",
			[][]int{{1, 1}, {0, 2}, {0, 3}, {1, 4}}, [][]int{{9}, {1}, {-2}, {-3}}},
		{"f(c: bool; x: int) returns (y: int) let y = merge c ((9 fby x) when c) ((8 fby x) whenot c); tel",
			[][]int{{0, 1}, {0, 2}, {1, 3}, {1, 4}}, [][]int{{8}, {1}, {2}, {3}}},
		{"f(c: bool; x: int) returns (y: int) let y = merge c (5 fby (6 fby x) when c) 0; tel",
			[][]int{{1, 1}, {0, 2}, {1, 3}, {1, 4}, {0, 0}, {1, 5}}, [][]int{{5}, {0}, {6}, {2}, {0}, {3}}},
		// A context that comes late, and one that never comes.
		{"f(c: bool; x: int) returns (y: int) let y = merge c (5 fby (x when c)) (- 1); tel",
			[][]int{{0, 1}, {0, 2}, {0, 3}, {1, 4}, {0, 5}, {0, 6}, {1, 7}}, [][]int{{-1}, {-1}, {-1}, {5}, {-1}, {-1}, {4}}},
		{"f(x: int) returns (y: int) var c: bool; u: int when c; let c = false; u = 0 fby (u + 1); y = merge c u (x whenot c); tel", [][]int{{4}, {5}}, [][]int{{4}, {5}}},
		// Several conditions.
		{"f(c: bool; d: bool) returns (n: int) var e: bool when c; u: int when c when e; let e = d when c; u = 1 + (0 fby u); n = merge c (merge e u (- 1)) (- 2); tel",
			[][]int{{1, 1}, {0, 1}, {1, 0}, {1, 1}, {0, 0}, {1, 1}}, [][]int{{1}, {-2}, {-1}, {2}, {-2}, {3}}},
		{"f(c: bool; d: bool; x: int) returns (n: int) var e: bool whenot c; u: int whenot c whenot e; let e = d whenot c; u = 0 fby (x whenot c whenot e); n = merge c (- 2) (merge e (- 1) u); tel",
			[][]int{{0, 0, 4}, {1, 0, 5}, {0, 1, 6}, {0, 0, 7}, {1, 1, 8}, {0, 0, 9}}, [][]int{{0}, {-2}, {-1}, {4}, {-2}, {7}}},
		// Nothing comes in.
		{"f() returns (n: int; b: bool) let n = 0 fby n + 1; b = n mod 3 = 0; tel", [][]int{{}, {}, {}, {}}, [][]int{{0, 1}, {1, 0}, {2, 0}, {3, 1}}},
		{"f() returns (n: int) let n = 1; tel", [][]int{}, [][]int{}},
	}
	for _, c := range cases {
		wantRows(t, parsed(t, "node "+c.node), "f", c.rows, c.want)
	}
}

// Clocks of MaxClock conditions, with a merge for each.
func TestRunDeepClocks(t *testing.T) {
	ins, decls, defs, clock, merges := "", "", "", "", "u"
	for i := range impl.MaxClock {
		n := strconv.Itoa(i)
		ins += "; e" + n + ": bool"
		decls += "d" + n + ": bool" + clock + "; "
		defs += "d" + n + " = e" + n + clock + "; "
		clock += " when d" + n
	}
	for i := impl.MaxClock - 1; i >= 0; i-- {
		merges = "(merge d" + strconv.Itoa(i) + " " + merges + " (0 - " + strconv.Itoa(i+1) + "))"
	}
	p := parsed(t, "node f(x: int"+ins+") returns (z: int) var "+decls+"u: int"+clock+"; let u = (0 fby u) + x"+clock+"; z = "+merges+"; "+defs+"tel")
	rows := [][]int{{5, 1, 1, 1, 1, 1, 1, 1, 1}, {6, 0, 1, 1, 1, 1, 1, 1, 1}, {7, 1, 1, 1, 1, 1, 1, 1, 0}, {8, 1, 1, 1, 1, 1, 1, 1, 1}, {9, 1, 1, 1, 0, 1, 1, 0, 1}}
	wantRows(t, p, "f", rows, [][]int{{5}, {-1}, {-8}, {13}, {-4}})
	m := newMaker(1)
	for range 60 {
		rows := m.rowsFor(p.Nodes[0], 30)
		for _, row := range rows {
			for i := 1; i < len(row); i++ {
				row[i] = min(1, m.Intn(8))
			}
		}
		wantRows(t, p, "f", rows, readStreams(p, p.Nodes[0], rows))
	}
}

func TestRunCalls(t *testing.T) {
	counter := "node count(by: int) returns (n: int; odd: bool) let n = (0 fby n) + by; odd = n mod 2 <> 0; tel "
	cases := []struct {
		node       string
		rows, want [][]int
	}{
		{"f(x: int) returns (n: int; b: bool) let n, b = count(x); tel", [][]int{{1}, {2}, {4}}, [][]int{{1, 1}, {3, 1}, {7, 1}}},
		{"f(x: int) returns (n: int) var a: int; b: bool; k: int; l: bool; let n = k; a, b = count(x); k, l = count(a); tel",
			[][]int{{1}, {2}, {3}}, [][]int{{1}, {4}, {10}}},
		// What goes out comes back in one instant later.
		{"f(x: int) returns (n: int) var b: bool; let n, b = count(x + (0 fby n)); tel", [][]int{{1}, {0}, {0}, {5}}, [][]int{{1}, {2}, {4}, {13}}},
		{"f(x: int) returns (n: int) var b: bool; let n, b = count(if false fby b then 0 else x); tel", [][]int{{1}, {1}, {2}, {2}}, [][]int{{1}, {1}, {1}, {1}}},
		// Within a clock, with an argument that counts the instants of that clock.
		{"f(c: bool; x: int) returns (n: int) var a: int when c; b: bool when c; let n = merge c a 0; a, b = count(10 fby (x when c)); tel",
			[][]int{{0, 1}, {1, 2}, {0, 3}, {1, 4}, {1, 5}}, [][]int{{0}, {10}, {0}, {12}, {16}}},
		{"f(c: bool; x: int) returns (n: int) var a: int when c; b: bool when c; let n = merge c a 0; a, b = count((10 fby x) when c); tel",
			[][]int{{0, 1}, {1, 2}, {0, 3}, {1, 4}, {1, 5}}, [][]int{{0}, {1}, {0}, {4}, {8}}},
		// Its own output as a condition.
		{"f(x: int) returns (n: int) var a: int; b: bool; k: int when b; l: bool when b; let a, b = count(x); k, l = count(1); n = merge b k (- 1); tel",
			[][]int{{1}, {1}, {1}, {1}, {2}, {1}}, [][]int{{1}, {-1}, {2}, {-1}, {-1}, {3}}},
	}
	for _, c := range cases {
		wantRows(t, parsed(t, counter+"node "+c.node), "f", c.rows, c.want)
	}
	p := parsed(t, counter+"node f() returns (n: int) let n = 2; tel")
	wantRows(t, p, "count", [][]int{{3}, {4}}, [][]int{{3, 1}, {7, 1}})
	wantRows(t, p, "f", [][]int{{}}, [][]int{{2}})
}

func wantRunCode(t *testing.T, what any, p impl.Program, node string, rows [][]int, code int) {
	t.Helper()
	got, gotCode := impl.Run(p, node, rows)
	if gotCode != code || code != impl.RunOK && len(got) != 0 {
		t.Errorf("%v: code %d with %d rows, asked for code %d", what, gotCode, len(got), code)
	}
}

func TestRunCodes(t *testing.T) {
	good := parsed(t, "node f(x: int; b: bool) returns (z: int) let z = x; tel node g() returns (z: int) let z = 1; tel")
	bad := parsed(t, "node f(x: int; b: bool) returns (z: int) let z = x; tel node g() returns (z: int) let z = q; tel")
	wrong := [][]int{{1}}
	wantRunCode(t, "empty program", impl.Program{}, "f", wrong, impl.RunCheck)
	wantRunCode(t, "a fault elsewhere", bad, "f", [][]int{{1, 1}}, impl.RunCheck)
	wantRunCode(t, "a fault, no name, wrong rows", bad, "h", wrong, impl.RunCheck)
	wantRunCode(t, "no name, wrong rows", good, "h", wrong, impl.RunName)
	for _, s := range []string{"", "F", "f ", "x", "$1", "\xff"} {
		wantRunCode(t, s, good, s, nil, impl.RunName)
	}
	wantRunCode(t, "no rows", good, "f", nil, impl.RunOK)
	wantRunCode(t, "wrong rows", good, "f", wrong, impl.RunRow)
}

func TestRunRows(t *testing.T) {
	p := parsed(t, "node f(x: int; b: bool) returns (z: int) let z = x; tel node g() returns (z: int) let z = 1; tel")
	goodRow := []int{5, 1}
	for _, row := range [][]int{{math.MinInt32, 0}, {math.MaxInt32, 1}, {0, 0}} {
		wantRunCode(t, row, p, "f", [][]int{goodRow, row}, impl.RunOK)
	}
	for _, row := range [][]int{nil, {}, {1}, {1, 1, 1}, {math.MinInt32 - 1, 0}, {math.MaxInt32 + 1, 0}, {math.MinInt, 0}, {math.MaxInt, 0}, {1 << 32, 0},
		{1, 2}, {1, -1}, {1, 1 << 32}, {1, 1<<32 + 1}, {1, math.MaxInt}, {1, math.MinInt}} {
		for _, rows := range [][][]int{{row}, {row, goodRow}, {goodRow, goodRow, row}} {
			wantRunCode(t, row, p, "f", rows, impl.RunRow)
		}
	}
	wantRunCode(t, "a value too many", p, "g", [][]int{{}, {0}}, impl.RunRow)
	wantRunCode(t, "most rows", p, "f", slices.Repeat([][]int{goodRow}, impl.MaxRows), impl.RunOK)
	wantRunCode(t, "a row too many", p, "f", slices.Repeat([][]int{goodRow}, impl.MaxRows+1), impl.RunRow)
	wantRunCode(t, "an empty row too many", p, "g", make([][]int, impl.MaxRows+1), impl.RunRow)
	wantRunCode(t, "most empty rows", p, "g", make([][]int, impl.MaxRows), impl.RunOK)
}

// MaxRows rows of what is as heavy or as deep as may be.
func TestRunGreatPrograms(t *testing.T) {
	rows := make([][]int, impl.MaxRows)
	// The first equation has 2000 items: the sum of 1000 ones, negated.
	wantRows(t, impl.Program{Nodes: []impl.Node{heavy("f", impl.MaxWeight)}}, "f", rows, slices.Repeat([][]int{{-1000}}, impl.MaxRows))

	// One value under nearly as many items as the greatest weight allows, through all variables.
	deepest := impl.Node{Name: "f", Ins: []impl.Var{intVar("x")}, Outs: []impl.Var{intVar("v1")}}
	for i := 1; i < impl.MaxVars; i++ {
		next := "v" + strconv.Itoa(i+1)
		deepest.Vars = append(deepest.Vars, intVar(next))
		deepest.Eqs = append(deepest.Eqs, plain("v"+strconv.Itoa(i), append(code(name(next)), slices.Repeat(code(op(impl.OpNeg)), 38)...)...))
	}
	deepest.Vars = deepest.Vars[:impl.MaxVars-2]
	deepest.Eqs[impl.MaxVars-2].Code[0].Name = "x"
	minusOne := slices.Repeat([][]int{{-1}}, impl.MaxRows)
	wantRows(t, impl.Program{Nodes: []impl.Node{deepest}}, "f", minusOne, minusOne)

	// A value that waits for all before it, and is first asked for at the last instant.
	late := parsed(t, `node f() returns (z: int) var n: int; k: bool; a: int; b: int; u: int when k;
let n = 1 fby n + 1; k = n = 1000; a = (0 fby b) + 1; b = 0 fby (a + (0 fby a)); u = (0 fby b) when k; z = merge k u 0; tel`)
	wantRows(t, late, "f", rows[:8], [][]int{{0}, {0}, {0}, {0}, {0}, {0}, {0}, {0}})
	got, _ := impl.Run(late, "f", rows)
	wantRows(t, late, "f", rows, readStreams(late, late.Nodes[0], rows))
	if last := got[impl.MaxRows-1][0]; last == 0 {
		t.Error("nothing was asked for")
	}

	// A chain of calls through all nodes, each delaying by one.
	chain := parsed(t, "node n0(x: int) returns (z: int) let z = 0 fby x; tel")
	for i := 1; i < impl.MaxNodes; i++ {
		chain.Nodes = append(chain.Nodes, parsed(t, "node n"+strconv.Itoa(i)+"(x: int) returns (z: int) let z = n"+strconv.Itoa(i-1)+"(0 fby x); tel").Nodes...)
	}
	ramp, want := make([][]int, impl.MaxRows), make([][]int, impl.MaxRows)
	for i := range ramp {
		ramp[i], want[i] = []int{i}, []int{max(0, i-impl.MaxNodes)}
	}
	wantRows(t, chain, "n199", ramp, want)
}

// Promise 5.
func TestRunOfFirstRows(t *testing.T) {
	for seed := range int64(1500) {
		p := passing(seed)
		m := newMaker(seed)
		for _, n := range p.Nodes {
			rows := m.rowsFor(n, 12)
			all, code := impl.Run(p, n.Name, rows)
			if code != impl.RunOK || len(all) != len(rows) {
				t.Fatal(seed, code, len(all))
			}
			for k := range len(rows) + 1 {
				wantRows(t, p, n.Name, rows[:k], all[:k])
				// Nor does it matter what comes after them.
				other, _ := impl.Run(p, n.Name, slices.Concat(rows[:k], m.rowsFor(n, 5)))
				if !sameRows(other[:k], all[:k]) {
					t.Fatalf("seed %d: the rows after %d change those before", seed, k)
				}
			}
		}
	}
}
