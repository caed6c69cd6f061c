package tests

import (
	"slices"
	"strconv"
	"strings"
	"testing"

	"loop.example/s0043/impl"
)

// Promise 6: Normalise.

// wantNormal asks for what the promise says in so many words, and for what the second reading gives.
func wantNormal(t *testing.T, what any, p impl.Program, rows int) {
	t.Helper()
	q := impl.Normalise(p)
	if again := normalisedAgain(p); !sameProgram(q, again) {
		t.Fatalf("%v:\n%s\nasked for\n%s", what, short(impl.Print(q)), short(impl.Print(again)))
	}
	wantCheck(t, impl.Print(q), q, impl.CheckOK, 0, 0)
	if !sameProgram(impl.Normalise(q), q) {
		t.Errorf("%v: done again it changes\n%s", what, short(impl.Print(q)))
	}
	m := newMaker(int64(rows))
	for k, n := range q.Nodes {
		if slices.ContainsFunc(n.Eqs, func(e impl.Equation) bool { return innerOf(e) > 0 }) {
			t.Errorf("%v: an inner fby is left in\n%s", what, short(impl.Print(q)))
		}
		if impl.Weight(p, k) != impl.Weight(q, k) {
			t.Errorf("%v: weight %d, asked for %d", what, impl.Weight(q, k), impl.Weight(p, k))
		}
		ins := m.rowsFor(n, rows)
		outs, _ := impl.Run(p, n.Name, ins)
		wantRows(t, q, n.Name, ins, outs)
	}
}

func TestNormaliseAtRandom(t *testing.T) {
	seen := map[string]int{}
	for seed := range int64(4000) {
		p := passing(seed)
		wantNormal(t, seed, p, int(seed%9))
		for k, n := range impl.Normalise(p).Nodes {
			old := len(p.Nodes[k].Vars)
			for _, v := range n.Vars[old:] {
				seen["new"]++
				seen["type "+strconv.Itoa(v.Type)]++
				seen["clock of "+strconv.Itoa(min(2, len(v.Clock)))]++
			}
			if new := len(n.Vars) - old; new > 0 && n.Vars[old+new-1].Name != "$"+strconv.Itoa(new) {
				seen["left out"]++
			}
		}
	}
	for _, what := range []string{"new", "type 1", "type 2", "clock of 0", "clock of 1", "clock of 2", "left out"} {
		if seen[what] < 100 {
			t.Error("too few programs", seen)
		}
	}
}

func TestNormaliseDamagedPrograms(t *testing.T) {
	passed, failed := 0, 0
	for seed := range int64(4000) {
		p := newMaker(seed).damaged(passing(seed/4), 2)
		if code, _, _ := impl.Check(p); code == impl.CheckOK {
			wantNormal(t, seed, p, 5)
			passed++
		} else {
			wantNothingLowered(t, code, p)
			failed++
		}
	}
	if passed < 300 || failed < 300 {
		t.Error("too few programs", passed, failed)
	}
}

// wantNothingLowered asks for the fixed answers to a program that fails its check.
func wantNothingLowered(t *testing.T, what any, p impl.Program) {
	t.Helper()
	if q := impl.Normalise(p); len(q.Nodes) != 0 {
		t.Errorf("%v: normalised to\n%s", what, short(impl.Print(q)))
	}
	if m := impl.Translate(p); len(m.Classes) != 0 {
		t.Errorf("%v: translated to\n%s", what, short(impl.PrintMachine(m)))
	}
	for node := range len(p.Nodes) + 2 {
		if order := impl.Order(p, node-1); len(order) != 0 {
			t.Errorf("%v: node %d in order %v", what, node-1, order)
		}
	}
}

// A program for each code of Check. Each has a first node without fault, but for the shape.
func TestNothingLoweredOfFaults(t *testing.T) {
	good := "node good(x: int) returns (y: int) let y = x + (0 fby x); tel "
	sources := map[int]string{
		impl.CheckName:  good + good,
		impl.CheckDecl:  good + plainNode + "var u: int when x; let z = 1; u = 1; tel",
		impl.CheckDef:   good + plainNode + "var u: int; let z = 1; tel",
		impl.CheckCall:  good + plainNode + "let z = good(x, x); tel",
		impl.CheckType:  good + plainNode + "let z = c; tel",
		impl.CheckClock: good + plainNode + "var u: int when c; let u = 1; z = u; tel",
		impl.CheckCycle: good + plainNode + "let z = z; tel",
		impl.CheckWeight: good + plainNode + "let z = 0" + strings.Repeat(" + (0 fby 1)", impl.MaxVars-2) +
			"; tel",
	}
	for code := impl.CheckName; code <= impl.CheckWeight; code++ {
		p := parsed(t, sources[code])
		if got, _, _ := impl.Check(p); got != code {
			t.Error("code", got, "for", code)
		}
		wantNothingLowered(t, code, p)
	}
	wantNothingLowered(t, "no nodes", impl.Program{})
	wantNothingLowered(t, "no equations", impl.Program{Nodes: []impl.Node{{Name: "f", Outs: []impl.Var{intVar("z")}}}})
	shapeless := parsed(t, good)
	shapeless.Nodes = append(shapeless.Nodes, one(plain("z", mem(0))).Nodes...)
	wantNothingLowered(t, "an item of machines", shapeless)
	wantNothingLowered(t, "an operand too few", one(plain("z", fby(1))))
}

type normaliseCase struct {
	what string
	// Nodes as text, in which S1 stands for $1.
	src, want string
}

func wantNormalTexts(t *testing.T, cases []normaliseCase) {
	t.Helper()
	for _, c := range cases {
		p := withFreshNames(parsed(t, c.src))
		want := impl.Print(withFreshNames(parsed(t, c.want)))
		if got := impl.Print(impl.Normalise(p)); got != want {
			t.Errorf("%s:\n%s\nasked for\n%s", c.what, got, want)
		}
		wantNormal(t, c.what, p, 8)
	}
}

func withFreshName(s string) string {
	if rest, found := strings.CutPrefix(s, "S"); found && impl.ShapeOK(one(plain("$"+rest, number(1)))) {
		return "$" + rest
	}
	return s
}

// withFreshNames puts fresh names for all names that are S and a number.
func withFreshNames(p impl.Program) impl.Program {
	for i := range p.Nodes {
		n := &p.Nodes[i]
		n.Name = withFreshName(n.Name)
		for _, vars := range [][]impl.Var{n.Ins, n.Outs, n.Vars} {
			for j := range vars {
				vars[j].Name = withFreshName(vars[j].Name)
				for k := range vars[j].Clock {
					vars[j].Clock[k].Name = withFreshName(vars[j].Clock[k].Name)
				}
			}
		}
		for j, e := range n.Eqs {
			n.Eqs[j].Call = withFreshName(e.Call)
			for k := range e.Lhs {
				e.Lhs[k] = withFreshName(e.Lhs[k])
			}
			for _, items := range codes(e) {
				for k := range items {
					items[k].Name = withFreshName(items[k].Name)
				}
			}
		}
	}
	return p
}

func TestNormaliseExpressions(t *testing.T) {
	head := "node f(x: int; b: bool) returns (y: int) "
	wantNormalTexts(t, []normaliseCase{
		{"the document's", head + "let y = (0 fby (x + (1 fby x))) * 2; tel",
			head + "var S1: int; S2: int; let S1 = 1 fby x; S2 = 0 fby (x + S1); y = S2 * 2; tel"},
		{"none", head + "let y = x + 1; tel", head + "let y = x + 1; tel"},
		{"the last item stays", head + "let y = -3 fby x; tel", head + "let y = -3 fby x; tel"},
		{"one below the last", head + "let y = 1 fby 2 fby x; tel", head + "var S1: int; let S1 = 2 fby x; y = 1 fby S1; tel"},
		{"within each other", head + "let y = 1 fby 2 fby 3 fby x; tel", head + "var S1: int; S2: int; let S1 = 3 fby x; S2 = 2 fby S1; y = 1 fby S2; tel"},
		{"side by side", head + "let y = (1 fby x) + (2 fby x) * (3 fby x); tel",
			head + "var S1: int; S2: int; S3: int; let S1 = 1 fby x; S2 = 2 fby x; S3 = 3 fby x; y = S1 + S2 * S3; tel"},
		{"two within one", head + "let y = - (1 fby ((2 fby x) - (3 fby x))); tel",
			head + "var S1: int; S2: int; S3: int; let S1 = 2 fby x; S2 = 3 fby x; S3 = 1 fby (S1 - S2); y = - S3; tel"},
		{"within, then beside", head + "let y = (1 fby (2 fby x)) + (3 fby x); tel",
			head + "var S1: int; S2: int; S3: int; let S1 = 2 fby x; S2 = 1 fby S1; S3 = 3 fby x; y = S2 + S3; tel"},
		{"both types", head + "let y = if true fby b then 1 fby x else if false fby not b then -2147483647 fby x else 2147483647 fby 3; tel",
			head + "var S1: bool; S2: int; S3: bool; S4: int; S5: int; let S1 = true fby b; S2 = 1 fby x; S3 = false fby (not b); " +
				"S4 = -2147483647 fby x; S5 = 2147483647 fby 3; y = if S1 then S2 else if S3 then S4 else S5; tel"},
		{"a bool of ints of bools", head + "let y = if (true fby ((3 fby (if false fby b then 1 else x)) < 2)) then 0 else 1; tel",
			head + "var S1: bool; S2: int; S3: bool; let S1 = false fby b; S2 = 3 fby (if S1 then 1 else x); S3 = true fby (S2 < 2); y = if S3 then 0 else 1; tel"},
		{"the same twice", head + "let y = (1 fby x) + (1 fby x); tel", head + "var S1: int; S2: int; let S1 = 1 fby x; S2 = 1 fby x; y = S1 + S2; tel"},
		{"of itself", head + "let y = (0 fby y) + x; tel", head + "var S1: int; let S1 = 0 fby y; y = S1 + x; tel"},
		{"of a number", head + "let y = (0 fby 1) + (2 fby 3); tel", head + "var S1: int; S2: int; let S1 = 0 fby 1; S2 = 2 fby 3; y = S1 + S2; tel"},
	})
}

func TestNormaliseEquations(t *testing.T) {
	two := "node two(i: int; b: bool) returns (p: int; q: int) let p = i; q = if b then 1 else i; tel "
	none := "node none() returns (o: int) let o = 1; tel "
	wantNormalTexts(t, []normaliseCase{
		{"new ones before theirs", "node f(x: int) returns (y: int; z: int) var u: int; w: int; let u = x - (1 fby x); y = u; z = 5 fby w; w = (2 fby x) + (3 fby x); tel",
			"node f(x: int) returns (y: int; z: int) var u: int; w: int; S1: int; S2: int; S3: int; " +
				"let S1 = 1 fby x; u = x - S1; y = u; z = 5 fby w; S2 = 2 fby x; S3 = 3 fby x; w = S2 + S3; tel"},
		{"arguments", two + "node f(x: int; b: bool) returns (y: int; z: int) let y, z = two(0 fby (x + (1 fby y)), true fby b); tel",
			two + "node f(x: int; b: bool) returns (y: int; z: int) var S1: int; S2: int; S3: bool; " +
				"let S1 = 1 fby y; S2 = 0 fby (x + S1); S3 = true fby b; y, z = two(S2, S3); tel"},
		{"an argument and the other", two + "node f(x: int; b: bool) returns (y: int; z: int) let y, z = two(x, x < (7 fby z)); tel",
			two + "node f(x: int; b: bool) returns (y: int; z: int) var S1: int; let S1 = 7 fby z; y, z = two(x, x < S1); tel"},
		{"no arguments", none + "node f() returns (y: int; z: int) let y = none(); z = y + (1 fby y); tel",
			none + "node f() returns (y: int; z: int) var S1: int; let y = none(); S1 = 1 fby y; z = y + S1; tel"},
		{"each node has its own names", "node g(x: int) returns (y: int) let y = 0 + (0 fby x); tel node f(x: int) returns (y: int) let y = 0 + (1 fby x); tel node h(x: int) returns (y: int) let y = g(2 fby (3 fby x)); tel",
			"node g(x: int) returns (y: int) var S1: int; let S1 = 0 fby x; y = 0 + S1; tel node f(x: int) returns (y: int) var S1: int; let S1 = 1 fby x; y = 0 + S1; tel " +
				"node h(x: int) returns (y: int) var S1: int; S2: int; let S1 = 3 fby x; S2 = 2 fby S1; y = g(S2); tel"},
		{"only the second node", none + "node f() returns (y: int) let y = 1 + (0 fby y); tel", none + "node f() returns (y: int) var S1: int; let S1 = 0 fby y; y = 1 + S1; tel"},
	})
}

func TestNormaliseClocks(t *testing.T) {
	head := "node f(c: bool; x: int) returns (y: int) "
	sum := "node sum(x: int; b: bool) returns (y: int) let y = if b then x else 0; tel "
	wantNormalTexts(t, []normaliseCase{
		{"under when", head + "var u: int when c; let u = (0 fby x) when c; y = merge c u 1; tel",
			head + "var u: int when c; S1: int; let S1 = 0 fby x; u = S1 when c; y = merge c u 1; tel"},
		{"over when", head + "var u: int whenot c; let u = 1 + (0 fby (x whenot c)); y = merge c 1 u; tel",
			head + "var u: int whenot c; S1: int whenot c; let S1 = 0 fby (x whenot c); u = 1 + S1; y = merge c 1 u; tel"},
		{"the last item, under and over when", head + "var u: int when c; let u = 1 fby ((2 fby x) when c); y = merge c u 1; tel",
			head + "var u: int when c; S1: int; let S1 = 2 fby x; u = 1 fby (S1 when c); y = merge c u 1; tel"},
		{"in either branch", head + "let y = merge c (1 fby (x when c)) (2 fby (x whenot c)); tel",
			head + "var S1: int when c; S2: int whenot c; let S1 = 1 fby (x when c); S2 = 2 fby (x whenot c); y = merge c S1 S2; tel"},
		{"over merge", head + "let y = 1 + (0 fby merge c (x when c) 2); tel", head + "var S1: int; let S1 = 0 fby merge c (x when c) 2; y = 1 + S1; tel"},
		{"in a branch and over it", head + "let y = 1 + (0 fby merge c (3 fby (x when c)) 2); tel",
			head + "var S1: int when c; S2: int; let S1 = 3 fby (x when c); S2 = 0 fby merge c S1 2; y = 1 + S2; tel"},
		{"under when in a branch", head + "let y = merge c ((1 fby x) when c) (2 fby ((3 fby x) whenot c)); tel",
			head + "var S1: int; S2: int; S3: int whenot c; let S1 = 1 fby x; S2 = 3 fby x; S3 = 2 fby (S2 whenot c); y = merge c (S1 when c) S3; tel"},
		{"a branch of a branch", head + "var d: bool when c; let d = (x when c) > 0; y = merge c (merge d (1 fby 2) (3 fby 4)) (5 fby 6); tel",
			head + "var d: bool when c; S1: int when c when d; S2: int when c whenot d; S3: int whenot c; " +
				"let d = (x when c) > 0; S1 = 1 fby 2; S2 = 3 fby 4; S3 = 5 fby 6; y = merge c (merge d S1 S2) S3; tel"},
		{"two conditions down, one up", head + "var d: bool whenot c; u: int whenot c when d; let d = (false fby (x > 1)) whenot c; u = ((7 fby (x whenot c)) when d) + (8 fby 9); y = merge c 0 (merge d u 1); tel",
			head + "var d: bool whenot c; u: int whenot c when d; S1: bool; S2: int whenot c; S3: int whenot c when d; " +
				"let S1 = false fby (x > 1); d = S1 whenot c; S2 = 7 fby (x whenot c); S3 = 8 fby 9; u = (S2 when d) + S3; y = merge c 0 (merge d u 1); tel"},
		{"arguments in a clock", sum + head + "var u: int when c; let u = sum((1 fby x) when c, true fby (c when c)); y = merge c u 0; tel",
			sum + head + "var u: int when c; S1: int; S2: bool when c; let S1 = 1 fby x; S2 = true fby (c when c); u = sum(S1 when c, S2); y = merge c u 0; tel"},
		{"a condition that is delayed", head + "var d: bool; let d = not (true fby d); y = merge d (1 fby 2) (3 fby 4); tel",
			head + "var d: bool; S1: bool; S2: int when d; S3: int whenot d; let S1 = true fby d; d = not S1; S2 = 1 fby 2; S3 = 3 fby 4; y = merge d S2 S3; tel"},
		// The new variable of the branch waits for d, and d for y, but y for neither.
		{"a condition from what it leads to", head + "var d: bool; let y = 1 + (0 fby merge d (1 fby 2) 3); d = y > 2; tel",
			head + "var d: bool; S1: int when d; S2: int; let S1 = 1 fby 2; S2 = 0 fby merge d S1 3; y = 1 + S2; d = y > 2; tel"},
	})
}

func TestNormaliseFreshNames(t *testing.T) {
	wantNormalTexts(t, []normaliseCase{
		{"an input", "node f(S1: int) returns (y: int) let y = (0 fby S1) + (1 fby S1); tel",
			"node f(S1: int) returns (y: int) var S2: int; S3: int; let S2 = 0 fby S1; S3 = 1 fby S1; y = S2 + S3; tel"},
		{"an output", "node f(x: int) returns (S2: int) let S2 = (0 fby x) + (1 fby S2); tel",
			"node f(x: int) returns (S2: int) var S1: int; S3: int; let S1 = 0 fby x; S3 = 1 fby S2; S2 = S1 + S3; tel"},
		{"a variable", "node f(x: int) returns (y: int) var S1: int; let S1 = 0 fby x; y = S1 + (1 fby x); tel",
			"node f(x: int) returns (y: int) var S1: int; S2: int; let S1 = 0 fby x; S2 = 1 fby x; y = S1 + S2; tel"},
		{"a variable that comes later", "node f(x: int) returns (y: int) var a: int; S2: int; let y = (0 fby x) + (1 fby x) + (2 fby x); a = 1; S2 = a; tel",
			"node f(x: int) returns (y: int) var a: int; S2: int; S1: int; S3: int; S4: int; let S1 = 0 fby x; S3 = 1 fby x; S4 = 2 fby x; y = S1 + S3 + S4; a = 1; S2 = a; tel"},
		{"of all three kinds, in a row", "node f(S3: int; S1: bool) returns (S2: int) var S5: int when S1; let S5 = 9 fby (S3 when S1); S2 = merge S1 (S5 + (7 fby 8)) (6 fby 5); tel",
			"node f(S3: int; S1: bool) returns (S2: int) var S5: int when S1; S4: int when S1; S6: int whenot S1; " +
				"let S5 = 9 fby (S3 when S1); S4 = 7 fby 8; S6 = 6 fby 5; S2 = merge S1 (S5 + S4) S6; tel"},
		{"far ones and near ones", "node f(S10: int; S999999999: int; S11: int) returns (y: int) let y = (0 fby S10) + (1 fby S11); tel",
			"node f(S10: int; S999999999: int; S11: int) returns (y: int) var S1: int; S2: int; let S1 = 0 fby S10; S2 = 1 fby S11; y = S1 + S2; tel"},
		{"names of nodes, and of other nodes' variables", "node S1(S2: int) returns (S3: int) let S3 = S2; tel node S2(x: int) returns (y: int) let y = S1(4 fby (5 fby x)); tel",
			"node S1(S2: int) returns (S3: int) let S3 = S2; tel node S2(x: int) returns (y: int) var S1: int; S2: int; let S1 = 5 fby x; S2 = 4 fby S1; y = S1(S2); tel"},
	})
	// The first ten are taken: the next has two digits.
	taken := "S1: int"
	for i := 2; i <= 10; i++ {
		taken += "; S" + strconv.Itoa(i) + ": int"
	}
	wantNormalTexts(t, []normaliseCase{
		{"ten are taken", "node f(" + taken + ") returns (y: int) let y = (0 fby S1) + (1 fby S10); tel",
			"node f(" + taken + ") returns (y: int) var S11: int; S12: int; let S11 = 0 fby S1; S12 = 1 fby S10; y = S11 + S12; tel"},
	})
}

// deepNode has a condition for each step of a clock of MaxClock conditions; body stands in that clock, by the name u.
func deepNode(body string) string {
	ins, decls, defs, clock, merges := "", "", "", "", "u"
	for i := range impl.MaxClock {
		n := strconv.Itoa(i)
		word := whenWord(i%3 != 1)
		ins += "; e" + n + ": bool"
		decls += "d" + n + ": bool" + clock + "; "
		defs += "d" + n + " = e" + n + clock + "; "
		clock += " " + word + " d" + n
	}
	for i := impl.MaxClock - 1; i >= 0; i-- {
		n := strconv.Itoa(i)
		if i%3 != 1 {
			merges = "(merge d" + n + " " + merges + " (" + n + " fby " + n + "1))"
		} else {
			merges = "(merge d" + n + " (" + n + " fby " + n + "1) " + merges + ")"
		}
	}
	return "node f(x: int" + ins + ") returns (z: int) var " + decls + "u: int" + clock + "; let u = " + strings.ReplaceAll(body, "CLOCK", clock) + "; z = " + merges + "; " + defs + "tel"
}

func TestNormaliseAtTheLimits(t *testing.T) {
	deep := parsed(t, deepNode("(0 fby u) + (1 fby x CLOCK)"))
	wantNormal(t, "the deepest clock", deep, 40)
	vars := impl.Normalise(deep).Nodes[0].Vars
	if last := vars[impl.MaxClock+1]; len(last.Clock) != impl.MaxClock || last.Clock[0] != on("d0") || last.Clock[1] != off("d1") {
		t.Error("the clock of", last)
	}
	// As many variables and equations as may be: all but two of them new.
	beside := parsed(t, "node f(x: int) returns (y: int) let y = x"+strings.Repeat(" + (7 fby x)", impl.MaxVars-2)+"; tel")
	wantNormal(t, "side by side", beside, 5)
	inside := parsed(t, "node f(x: int) returns (y: int) let y = - ("+strings.Repeat("7 fby ", impl.MaxVars-2)+"x); tel")
	wantNormal(t, "within each other", inside, 5)
	last := impl.Normalise(inside).Nodes[0]
	if len(last.Vars) != impl.MaxVars-2 || !sameEquation(last.Eqs[impl.MaxVars-3], plain("$498", name("$497"), fby(7))) {
		t.Error(len(last.Vars), last.Eqs[impl.MaxVars-3])
	}
	// A long expression, and the greatest weight.
	long := append(code(number(1), fby(2)), slices.Repeat(code(op(impl.OpNeg)), impl.MaxItems-2)...)
	wantNormal(t, "long", one(plain("z", long...)), 3)
	n := heavy("f", impl.MaxWeight-2)
	n.Eqs[0].Code = slices.Insert(n.Eqs[0].Code, 1, fby(5))
	n.Eqs[1].Code = n.Eqs[1].Code[:len(n.Eqs[1].Code)-1]
	heaviest := impl.Program{Nodes: []impl.Node{n}}
	wantWeight(t, "heavy", heaviest, 0, impl.MaxWeight)
	wantNormal(t, "heavy", heaviest, 3)
}
