package tests

import (
	"slices"
	"strconv"
	"strings"
	"testing"

	"loop.example/s0043/impl"
)

func wantCheck(t *testing.T, what string, p impl.Program, code, node, place int) {
	t.Helper()
	gotCode, gotNode, gotPlace := impl.Check(p)
	if gotCode != code || gotNode != node || gotPlace != place {
		t.Errorf("%s: %d %d %d, asked for %d %d %d", short(what), gotCode, gotNode, gotPlace, code, node, place)
	}
}

type checkCase struct {
	src               string
	code, node, place int
}

func wantChecks(t *testing.T, cases []checkCase) {
	t.Helper()
	for _, c := range cases {
		wantCheck(t, c.src, parsed(t, c.src), c.code, c.node, c.place)
	}
}

// Promise 3, held against the second reading, at programs with some faults and at programs that are all faults.
func TestCheckOfDamagedPrograms(t *testing.T) {
	seen := map[int]int{}
	for seed := range int64(20000) {
		m := newMaker(seed)
		p := m.damaged(passing(seed/4), 1+m.Intn(3))
		code, node, place := firstFault(p)
		wantCheck(t, impl.Print(p), p, code, node, place)
		seen[code]++
	}
	for code := impl.CheckOK; code <= impl.CheckCycle; code++ {
		if seen[code] < 100 {
			t.Error("too few programs with code", code, seen)
		}
	}
}

func TestCheckOfRandomPrograms(t *testing.T) {
	for seed := range int64(2000) {
		p := newMaker(seed).program()
		code, node, place := firstFault(p)
		wantCheck(t, impl.Print(p), p, code, node, place)
	}
}

func TestCheckShape(t *testing.T) {
	wantCheck(t, "no nodes", impl.Program{}, impl.CheckShape, 0, 0)
	good := parsed(t, "node f() returns (z: int) let z = 1; tel").Nodes[0]
	wantCheck(t, "one node", impl.Program{Nodes: []impl.Node{good}}, impl.CheckOK, 0, 0)
	// The shape comes before every other fault, wherever it is.
	wantCheck(t, "bad last node", impl.Program{Nodes: []impl.Node{good, good, {}}}, impl.CheckShape, 0, 0)
	wantCheck(t, "bad item", one(plain("z", impl.Item{Op: impl.OpMem})), impl.CheckShape, 0, 0)
	wantCheck(t, "too many nodes", impl.Program{Nodes: slices.Repeat([]impl.Node{good}, impl.MaxNodes+1)}, impl.CheckShape, 0, 0)
	wantCheck(t, "all nodes alike", impl.Program{Nodes: slices.Repeat([]impl.Node{good}, impl.MaxNodes)}, impl.CheckName, 1, 0)
}

const (
	plainNode = "node f(x: int; c: bool) returns (z: int) "
	pairNode  = "node pair(x: int; c: bool) returns (y: int; b: bool) let y = x; b = c; tel "
)

func TestCheckNames(t *testing.T) {
	wantChecks(t, []checkCase{
		{plainNode + "let z = 1; tel node g() returns (z: int) let z = 1; tel " + plainNode + "let z = 1; tel", impl.CheckName, 2, 0},
		{"node f(x: int; x: int) returns (z: int) let z = 1; tel", impl.CheckName, 0, 2},
		{"node f(x: int; y: bool) returns (x: int) let x = 1; tel", impl.CheckName, 0, 3},
		{"node f(x: int) returns (z: int; z: int) let z = 1; tel", impl.CheckName, 0, 3},
		{plainNode + "var u: int; z: int; let z = 1; u = 1; tel", impl.CheckName, 0, 5},
		{plainNode + "var u: int; u: bool when c; let z = 1; u = 1; tel", impl.CheckName, 0, 5},
		{plainNode + "var u: int; v: int; u: int; v: int; let z = 1; tel", impl.CheckName, 0, 6},
		// Variables of different nodes, and nodes and variables, may be called alike.
		{plainNode + "let z = 1; tel node x(z: int) returns (f: int) let f = z; tel", 0, 0, 0},
		{"node f(f: int) returns (z: int) let z = f; tel", 0, 0, 0},
	})
}

func TestCheckDeclarations(t *testing.T) {
	wantChecks(t, []checkCase{
		{plainNode + "var u: int when c; v: int whenot c; let z = merge c u v; u = 1; v = 2; tel", 0, 0, 0},
		{plainNode + "var u: int when d; let z = 1; u = 1; tel", impl.CheckDecl, 0, 3},
		{plainNode + "var u: int when x; let z = 1; u = 1; tel", impl.CheckDecl, 0, 3},
		{plainNode + "var u: int when z; let z = 1; u = 1; tel", impl.CheckDecl, 0, 3},
		{plainNode + "var u: bool when u; let z = 1; u = true; tel", impl.CheckDecl, 0, 3},
		{plainNode + "var u: int when c when c; let z = 1; u = 1; tel", impl.CheckDecl, 0, 3},
		{plainNode + "var d: bool; u: int when c when d; let z = 1; u = 1; d = c; tel", impl.CheckDecl, 0, 4},
		{plainNode + "var d: bool when c; u: int when d; let z = 1; u = 1; d = true; tel", impl.CheckDecl, 0, 4},
		{plainNode + "var d: bool when c; u: int whenot c when d; let z = 1; u = 1; d = true; tel", impl.CheckDecl, 0, 4},
		{plainNode + "var d: bool whenot c; u: int whenot c when d; let z = 1; u = 1; d = true; tel", 0, 0, 0},
		// A condition may be declared behind the variable, and may be an output.
		{plainNode + "var u: int when c whenot d; d: bool when c; let z = 1; u = 1; d = true; tel", 0, 0, 0},
		{"node f() returns (b: bool) var u: int when b; let b = true; u = 1; tel", 0, 0, 0},
		{plainNode + "var u: int when c when d; d: bool when e; e: bool; let z = 1; tel", impl.CheckDecl, 0, 3},
		{plainNode + "var d: bool when v; v: bool when d; let z = 1; tel", impl.CheckDecl, 0, 3},
	})
}

func TestCheckDefinitions(t *testing.T) {
	wantChecks(t, []checkCase{
		{plainNode + "let x = 1; z = 1; tel", impl.CheckDef, 0, 0},
		{plainNode + "let z = 1; c = true; tel", impl.CheckDef, 0, 1},
		{plainNode + "let z = 1; q = 1; tel", impl.CheckDef, 0, 1},
		{plainNode + "let z = 1; z = 1; tel", impl.CheckDef, 0, 1},
		{plainNode + "var u: int; let u = 1; z = 1; u = 2; tel", impl.CheckDef, 0, 2},
		{pairNode + plainNode + "var b: bool; let z, z = pair(x, c); b = c; tel", impl.CheckDef, 1, 0},
		{pairNode + plainNode + "var b: bool; let z, b = pair(x, c); b = c; tel", impl.CheckDef, 1, 1},
		{pairNode + plainNode + "var b: bool; let b = c; z, b = pair(x, c); tel", impl.CheckDef, 1, 1},
		{pairNode + plainNode + "let z, c = pair(x, c); tel", impl.CheckDef, 1, 0},
		{pairNode + plainNode + "let z, q = pair(x, c); tel", impl.CheckDef, 1, 0},
		{"node f() returns (y: int; z: int) let y = 1; tel", impl.CheckDef, 0, 1},
		{"node f() returns (y: int; z: int) let z = 1; tel", impl.CheckDef, 0, 1},
		{plainNode + "var u: int; v: int; let z = 1; v = 2; tel", impl.CheckDef, 0, 2},
		{pairNode + plainNode + "var b: bool; let z, b = pair(x, c); tel", 0, 0, 0},
	})
}

func TestCheckCalls(t *testing.T) {
	wantChecks(t, []checkCase{
		{plainNode + "let z = g(); tel", impl.CheckCall, 0, 0},
		{plainNode + "let z = f(x, c); tel", impl.CheckCall, 0, 0},
		{plainNode + "var u: int; let u = 1; z = g(x, c); tel node g(x: int; c: bool) returns (z: int) let z = x; tel", impl.CheckCall, 0, 1},
		{pairNode + plainNode + "var b: bool; let z, b = pair(x); tel", impl.CheckCall, 1, 0},
		{pairNode + plainNode + "var b: bool; let z, b = pair(x, c, c); tel", impl.CheckCall, 1, 0},
		{pairNode + plainNode + "var b: bool; let b = c; z = pair(x, c); tel", impl.CheckCall, 1, 1},
		{pairNode + plainNode + "var b: bool; d: bool; let z, b, d = pair(x, c); tel", impl.CheckCall, 1, 0},
		{"node k() returns (z: int) let z = 1; tel " + plainNode + "let z = k(); tel", 0, 0, 0},
		{"node k() returns (z: int) let z = 1; tel " + plainNode + "let z = k(x); tel", impl.CheckCall, 1, 0},
		{pairNode + plainNode + "var b: bool; let z, b = x(x, c); tel", impl.CheckCall, 1, 0},
	})
}

// Every Op with every choice of the types of its operands and its name, for a left variable of each type.
func TestCheckTypesOfOperators(t *testing.T) {
	leaves := []string{"i", "b", "o"}
	for o := impl.OpInt; o <= impl.OpMerge; o++ {
		count := arity(o)
		for choice := range 27 * 3 * 2 {
			var items itemList
			letters := ""
			rest := choice
			for range 3 {
				if len(items) < count {
					leaf := leaves[rest%3]
					items = append(items, name(leaf))
					letters += leaf
				}
				rest /= 3
			}
			item := op(o)
			if o == impl.OpVar || o == impl.OpWhen || o == impl.OpMerge {
				item.Name = leaves[rest%3]
			}
			left := rest / 3
			n := impl.Node{Name: "f", Ins: []impl.Var{intVar("i"), boolVar("b")},
				Outs: []impl.Var{{Name: "z", Type: left + 1}}, Eqs: []impl.Equation{plain("z", append(items, item)...)}}
			ok := slices.Contains(rules[o], letters+leaves[left]) && item.Name != "o" && item.Name != "i"
			if o == impl.OpVar {
				ok = item.Name == leaves[left]
			}
			got, _, _ := impl.Check(impl.Program{Nodes: []impl.Node{n}})
			if (got == impl.CheckType) == ok {
				t.Errorf("op %d of %s with name %q for type %d: code %d", o, letters, item.Name, left+1, got)
			}
		}
	}
}

func TestCheckTypes(t *testing.T) {
	wantChecks(t, []checkCase{
		{plainNode + "let z = c; tel", impl.CheckType, 0, 0},
		{plainNode + "var b: bool; let z = x; b = x; tel", impl.CheckType, 0, 1},
		{plainNode + "let z = 1 + (2 * c); tel", impl.CheckType, 0, 0},
		{plainNode + "let z = if c then x else q; tel", impl.CheckType, 0, 0},
		{plainNode + "let z = 0 fby q; tel", impl.CheckType, 0, 0},
		{plainNode + "let z = merge q 1 2; tel", impl.CheckType, 0, 0},
		{plainNode + "let z = merge x 1 2; tel", impl.CheckType, 0, 0},
		{plainNode + "let z = merge c (1 when q) 2; tel", impl.CheckType, 0, 0},
		{plainNode + "let z = merge c 1 true; tel", impl.CheckType, 0, 0},
		{plainNode + "let z = merge c (x when x) 2; tel", impl.CheckType, 0, 0},
		{pairNode + plainNode + "var b: bool; let z, b = pair(c, c); tel", impl.CheckType, 1, 0},
		{pairNode + plainNode + "var b: bool; let z, b = pair(x, x); tel", impl.CheckType, 1, 0},
		{pairNode + plainNode + "var b: bool; let b, z = pair(x, c); tel", impl.CheckType, 1, 0},
		{pairNode + plainNode + "var b: int; let z, b = pair(x, c); tel", impl.CheckType, 1, 0},
		{pairNode + plainNode + "var b: bool; let z, b = pair(x, q); tel", impl.CheckType, 1, 0},
		{pairNode + plainNode + "var b: bool; let z, b = pair(x + 1, not c and x < 2); tel", 0, 0, 0},
	})
}

func TestCheckClocks(t *testing.T) {
	f := plainNode + "var d: bool when c; u: int when c; v: int whenot c; w: int when c when d; "
	rest := "d = true; u = 1; v = 2; w = 3; tel"
	node := func(right string) string { return f + "let z = " + right + "; " + rest }
	local := func(left, right string) string {
		return strings.Replace(f+"let z = x; "+rest, left+" =", left+" = "+right+" -", 1)
	}
	wantChecks(t, []checkCase{
		{node("u"), impl.CheckClock, 0, 0},
		{node("x when c"), impl.CheckClock, 0, 0},
		{node("merge c u v"), 0, 0, 0},
		{node("merge c v u"), impl.CheckClock, 0, 0},
		{node("merge c u u"), impl.CheckClock, 0, 0},
		{node("merge c v v"), impl.CheckClock, 0, 0},
		{node("merge c 1 x"), impl.CheckClock, 0, 0},
		{node("merge c 1 (x whenot c)"), 0, 0, 0},
		{node("merge c 1 (x when c)"), impl.CheckClock, 0, 0},
		{node("merge c (x when c) v"), 0, 0, 0},
		{node("merge c (merge d w u) v"), impl.CheckClock, 0, 0},
		{node("merge c (merge d w (u whenot d)) v"), 0, 0, 0},
		{node("merge c (merge d (x when c when d) (u whenot d)) v"), 0, 0, 0},
		{node("merge c (merge d (x when d when c) (u whenot d)) v"), impl.CheckClock, 0, 0},
		{node("merge d w v"), impl.CheckClock, 0, 0},
		{node("merge c (merge c 1 2) v"), impl.CheckClock, 0, 0},
		{node("0 fby (merge c (0 fby u) v)"), 0, 0, 0},
		{node("0 fby (merge c (0 fby x) v)"), impl.CheckClock, 0, 0},
		{node("if c then u else x"), impl.CheckClock, 0, 0},
		{local("u", "x when c"), 0, 0, 0},
		{local("u", "x"), impl.CheckClock, 0, 2},
		{local("u", "x whenot c"), impl.CheckClock, 0, 2},
		{local("u", "(x + 1) when c"), 0, 0, 0},
		{local("u", "(u + 1) when c"), impl.CheckClock, 0, 2},
		{local("u", "u when c"), impl.CheckClock, 0, 2},
		{local("u", "5 when d"), impl.CheckClock, 0, 2},
		{local("v", "1 + (x whenot c)"), 0, 0, 0},
		{local("w", "u when d"), 0, 0, 0},
		{local("w", "u when c"), impl.CheckClock, 0, 4},
		{local("w", "x when c when d"), 0, 0, 0},
		{local("w", "x when d when c"), impl.CheckClock, 0, 4},
		{local("w", "(x when c) when d"), 0, 0, 0},
		{local("w", "x when d"), impl.CheckClock, 0, 4},
		{local("w", "5 when c when d"), 0, 0, 0},
	})
	wantChecks(t, []checkCase{
		{pairNode + plainNode + "var u: int when c; b: bool when c; let z = x; u, b = pair(x when c, c when c); tel", 0, 0, 0},
		{pairNode + plainNode + "var u: int when c; b: bool when c; let z = x; u, b = pair(1, true); tel", 0, 0, 0},
		{pairNode + plainNode + "var u: int when c; b: bool when c; let z = x; u, b = pair(x when c, c); tel", impl.CheckClock, 1, 1},
		{pairNode + plainNode + "var u: int when c; b: bool when c; let z = x; u, b = pair(x, c when c); tel", impl.CheckClock, 1, 1},
		{pairNode + plainNode + "var u: int when c; b: bool whenot c; let z = x; u, b = pair(1, true); tel", impl.CheckClock, 1, 1},
		{pairNode + plainNode + "var u: int when c; b: bool; let z = x; u, b = pair(1, true); tel", impl.CheckClock, 1, 1},
		{pairNode + plainNode + "var b: bool when c; let z, b = pair(1, true); tel", impl.CheckClock, 1, 0},
	})
}

// deep gives a node with bools d0 to d7, each under all before it, and what more is asked for under all of them.
func deep(vars, eqs string) string {
	decls, defs, clock := "", "", ""
	for i := range impl.MaxClock {
		d := "d" + strconv.Itoa(i)
		decls += d + ": bool" + clock + "; "
		defs += d + " = true; "
		clock += " when " + d
	}
	return "node f(x: int) returns (z: int) var " + decls + strings.ReplaceAll(vars, "@", clock) + " let z = x; " + defs +
		strings.ReplaceAll(eqs, "@", clock) + " tel"
}

func TestCheckOfDeepClocks(t *testing.T) {
	last := impl.MaxClock + 1
	wantChecks(t, []checkCase{
		{deep("u: int@;", "u = 1;"), 0, 0, 0},
		{deep("u: int@;", "u = x@;"), 0, 0, 0},
		{deep("u: int@;", "u = 0 fby (x@ + u);"), 0, 0, 0},
		{deep("u: int@;", "u = x;"), impl.CheckClock, 0, last},
		// A merge under MaxClock - 1 conditions, and one under MaxClock.
		{strings.Replace(deep("u: int@;", "u = merge d7 1 2;"), " when d7", "", 1), 0, 0, 0},
		{deep("e: bool@; u: int@;", "e = true; u = merge e 1 2;"), impl.CheckClock, 0, last + 1},
		{deep("e: bool@; u: int@;", "e = true; u = 1;"), 0, 0, 0},
	})
}

func TestCheckCycles(t *testing.T) {
	two := "node two(x: int; y: int) returns (a: int; b: int) let a = x; b = 0 fby y; tel "
	f := two + plainNode + "var u: int; v: int; w: int when c; d: bool; "
	cycle := func(eqs string) checkCase { return checkCase{f + "let " + eqs + " tel", impl.CheckCycle, 1, 0} }
	none := func(eqs string) checkCase { return checkCase{f + "let " + eqs + " tel", 0, 0, 0} }
	wantChecks(t, []checkCase{
		none("z = u; u = v; v = x; w = 1; d = c;"),
		none("z = u + v; u = x; v = u + u; w = v when c; d = u = v;"),
		cycle("z = z; u = 1; v = 1; w = 1; d = c;"),
		cycle("z = 1; u = v; v = u; w = 1; d = c;"),
		cycle("z = 1; u = v + 1; v = merge c w 0; w = u when c; d = c;"),
		cycle("z = 1; u = 1; v = 1; w = 1; d = not d;"),
		cycle("z = 1; u = if d then 1 else 2; v = 1; w = 1; d = u = 1;"),
		cycle("z = 1; u = 1; v = 1; w = w; d = c;"),
		// Through a condition.
		cycle("z = 1; u = merge d 1 2; v = 1; w = 1; d = u = 1;"),
		cycle("z = 1; u = merge d (1 when d) 2; v = 1; w = 1; d = merge d true false;"),
		none("z = 1; u = merge d (1 when d) 2; v = 1; w = 1; d = false fby u = 1;"),
		// Through a fby there's none, but beside it there is, and its operand may have names of every kind.
		none("z = 0 fby z; u = 1 fby v; v = 1 fby u; w = 0 fby w; d = c;"),
		none("z = 1; u = v; v = 1 + (1 fby (u + v)); w = 1; d = c;"),
		cycle("z = 1; u = 1 + (1 fby u) + u; v = 1; w = 1; d = c;"),
		cycle("z = 1; u = 1 + u + (1 fby u); v = 1; w = 1; d = c;"),
		none("z = 1; u = 0 fby merge d (u when d) 2; v = 1; w = 1; d = u = 1;"),
		none("z = 1; u = 1; v = 1; w = 1; d = (true fby d) xor (false fby d);"),
		// Through calls every output hangs on every argument, but not on what a fby holds back.
		cycle("z = 1; u, v = two(u, 1); w = 1; d = c;"),
		cycle("z = 1; u, v = two(1, u); w = 1; d = c;"),
		cycle("z = 1; u, v = two(v, 1); w = 1; d = c;"),
		cycle("z = 1; u, v = two(1, v); w = 1; d = c;"),
		cycle("z = v; u, v = two(1, 2 * z); w = 1; d = c;"),
		none("z = 1; u, v = two(0 fby u, 1 + (1 fby (u + v))); w = 1; d = c;"),
		cycle("z = 1; u, v = two(0 fby u, v + (1 fby (u + v))); w = 1; d = c;"),
	})
}

// A row of variables, each reading the next, that is closed or not.
func TestCheckLongCycle(t *testing.T) {
	for _, closed := range []bool{false, true} {
		n := impl.Node{Name: "f", Outs: []impl.Var{intVar("v0")}}
		for i := range impl.MaxVars {
			s := "v" + strconv.Itoa(i)
			if i > 0 {
				n.Vars = append(n.Vars, intVar(s))
			}
			n.Eqs = append(n.Eqs, plain(s, name("v"+strconv.Itoa((i+1)%impl.MaxVars))))
		}
		want := impl.CheckCycle
		if !closed {
			n.Eqs[impl.MaxVars-1].Code = code(number(1))
			want = impl.CheckOK
		}
		wantCheck(t, strconv.FormatBool(closed), impl.Program{Nodes: []impl.Node{n}}, want, 0, 0)
	}
}

// fbys is an expression with so many inner fbys and twice as many items and one.
func fbys(inner int) itemList {
	items := code(number(1))
	for range inner {
		items = append(items, fby(0), op(impl.OpNeg))
	}
	return items
}

func TestCheckInnerFbys(t *testing.T) {
	for _, ins := range []int{0, 1, 100} {
		for _, eqs := range []int{1, 2, 50} {
			for over := -1; over <= 1; over++ {
				n := impl.Node{Name: "f"}
				for i := range ins {
					n.Ins = append(n.Ins, intVar("i"+strconv.Itoa(i)))
				}
				for i := range eqs {
					s := "z" + strconv.Itoa(i)
					n.Outs = append(n.Outs, intVar(s))
					n.Eqs = append(n.Eqs, plain(s, number(1), fby(1)))
				}
				inner := impl.MaxVars - ins - eqs + over
				n.Eqs[eqs-1].Code = append(fbys(inner), fby(1))
				p := impl.Program{Nodes: []impl.Node{n}}
				want := impl.CheckOK
				if over > 0 {
					want = impl.CheckWeight
				}
				wantCheck(t, strconv.Itoa(ins)+" "+strconv.Itoa(eqs)+" "+strconv.Itoa(over), p, want, 0, 0)
			}
		}
	}
}

func TestCheckInnerFbysInArguments(t *testing.T) {
	for over := range 2 {
		p := parsed(t, "node g(x: int) returns (z: int) let z = x; tel node f() returns (z: int) let z = g(1); tel")
		p.Nodes[1].Eqs[0].Args[0] = append(fbys(impl.MaxVars-2+over), fby(1))
		wantCheck(t, "in an argument", p, []int{impl.CheckOK, impl.CheckWeight}[over], over, 0)
	}
}

// sized is an int expression with so many items.
func sized(items int) itemList {
	list := code(number(1))
	for len(list)+2 <= items {
		list = append(list, number(1), op(impl.OpAdd))
	}
	if len(list) < items {
		list = append(list, op(impl.OpNeg))
	}
	return list
}

// heavy is a node with one output and so great a weight.
func heavy(name string, weight int) impl.Node {
	n := impl.Node{Name: name}
	for rest := weight - 1; rest > 0; {
		items := min(rest-1, 2000)
		if rest-1-items == 1 {
			items--
		}
		s := "z" + strconv.Itoa(len(n.Eqs))
		n.Vars = append(n.Vars, intVar(s))
		n.Eqs = append(n.Eqs, plain(s, sized(items)...))
		rest -= 1 + items
	}
	n.Outs, n.Vars = n.Vars[:1], n.Vars[1:]
	return n
}

func TestCheckWeights(t *testing.T) {
	for weight := impl.MaxWeight - 5; weight <= impl.MaxWeight+5; weight++ {
		n := heavy("f", weight)
		p := impl.Program{Nodes: []impl.Node{n}}
		if got := impl.Weight(p, 0); got != min(weight, impl.MaxWeight+1) {
			t.Fatal(got, weight)
		}
		want := impl.CheckOK
		if weight > impl.MaxWeight {
			want = impl.CheckWeight
		}
		wantCheck(t, strconv.Itoa(weight), p, want, 0, 0)
	}
}

// Each node is within all bounds by itself; what it calls adds up.
func TestCheckWeightsOfCalls(t *testing.T) {
	caller := parsed(t, "node f() returns (y: int; z: int) let y = half(); z = half(); tel").Nodes[0]
	last := parsed(t, "node last() returns (z: bool) let z = 1; tel").Nodes[0]
	// f has 1 + 1 + 1 and twice the half.
	wantCheck(t, "just", impl.Program{Nodes: []impl.Node{heavy("half", 9998), caller, last}}, impl.CheckType, 2, 0)
	wantCheck(t, "over", impl.Program{Nodes: []impl.Node{heavy("half", 9999), caller, last}}, impl.CheckWeight, 1, 0)
	wantCheck(t, "far over", impl.Program{Nodes: []impl.Node{heavy("half", 20001), caller, last}}, impl.CheckWeight, 0, 0)
}

// A program that has every fault: each step mends the first one, and the next comes to light.
func TestCheckOrder(t *testing.T) {
	src := pairNode + `
node pair(x: int; c: bool) returns (z: int; x: bool)
var c: bool; u: int when x; v: bool when q; d: bool; e: int; h: int;
let
  x, v = pear(c);
  z = pear(c);
  v = 1 + w;
  e = x + u;
  d = d;
  x = x;
tel
node last(x: int) returns (x: int) let x = x; tel`
	// The node has 10 variables at the end.
	held := func(inner int) string { return "h = 0" + strings.Repeat(" + (0 fby 1)", inner) + ";" }
	steps := []struct {
		old, new          string
		code, node, place int
	}{
		{"", "", impl.CheckName, 1, 0},
		{"node pair(x: int; c: bool) returns (z: int; x", "node f(x: int; c: bool) returns (z: int; x", impl.CheckName, 1, 4},
		{"(z: int; x: bool)", "(z: int; b: bool)", impl.CheckName, 1, 5},
		{"var c: bool", "var g: bool", impl.CheckDecl, 1, 5},
		{"u: int when x", "u: int when c", impl.CheckDecl, 1, 6},
		{"v: bool when q", "v: bool when c", impl.CheckDef, 1, 0},
		{"x, v = pear(c)", "z, v = pear(c)", impl.CheckCall, 1, 0},
		{"z, v = pear(c)", "z, v = pair(c)", impl.CheckCall, 1, 0},
		{"z, v = pair(c)", "z, v = pair(c, c)", impl.CheckType, 1, 0},
		{"z, v = pair(c, c)", "z, v = pair(x, c)", impl.CheckClock, 1, 0},
		{"z, v = pair(x, c)", "z, b = pair(x, c)", impl.CheckDef, 1, 1},
		{"z = pear(c)", "u = pear(c)", impl.CheckCall, 1, 1},
		{"u = pear(c)", "u = x < x", impl.CheckType, 1, 1},
		{"u = x < x", "u = x + x", impl.CheckClock, 1, 1},
		{"u = x + x", "u = (x + z) when c", impl.CheckType, 1, 2},
		{"v = 1 + w", "v = c", impl.CheckClock, 1, 2},
		{"v = c", "v = v", impl.CheckClock, 1, 3},
		{"e = x + u", "e = x + h", impl.CheckDef, 1, 5},
		{"x = x;\ntel", "h = 1;\ntel", impl.CheckDef, 1, 6},
		{"h = 1;\ntel", held(492) + " g = true;\ntel", impl.CheckCycle, 1, 0},
		{"v = v", "v = true", impl.CheckCycle, 1, 0},
		{"d = d", "d = true fby d", impl.CheckWeight, 1, 0},
		{held(492), held(491), impl.CheckWeight, 1, 0},
		{held(491), held(490), impl.CheckName, 2, 2},
		{"(x: int) returns (x: int) let x = x", "(x: int) returns (y: int) let y = x", 0, 0, 0},
	}
	for i, step := range steps {
		if !strings.Contains(src, step.old) {
			t.Fatal("step", i, "mends nothing")
		}
		src = strings.Replace(src, step.old, step.new, 1)
		wantCheck(t, "step "+strconv.Itoa(i), parsed(t, src), step.code, step.node, step.place)
	}
}
