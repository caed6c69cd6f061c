package tests

import (
	"slices"
	"strconv"
	"strings"
	"testing"

	"loop.example/s0043/impl"
)

// Promise 8: Translate.

// played gives the outputs of a step for each row, beginning with Reset.
func played(m impl.Machine, class int, rows [][]int) [][]int {
	state := impl.Reset(m, class)
	outs := make([][]int, len(rows))
	for i, row := range rows {
		state, outs[i], _ = impl.Step(m, class, state, row)
	}
	return outs
}

// wantPlay asks that the steps of a node's class give what Run does.
func wantPlay(t *testing.T, what any, p impl.Program, m impl.Machine, node int, rows [][]int) {
	t.Helper()
	want, code := impl.Run(p, p.Nodes[node].Name, rows)
	if got := played(m, node, rows); code != impl.RunOK || !sameRows(got, want) {
		t.Errorf("%v: rows %v of node %d give\n%v, asked for\n%v of\n%s", what, rows, node, got, want, short(impl.Print(p)))
	}
}

// wantTranslated asks for what the second reading gives, and for what the promise says, on so many rows.
func wantTranslated(t *testing.T, what any, p impl.Program, count int) {
	t.Helper()
	m := impl.Translate(p)
	if again := translatedAgain(p); !sameMachine(m, again) {
		t.Fatalf("%v:\n%s\nasked for\n%s", what, short(impl.PrintMachine(m)), short(impl.PrintMachine(again)))
	}
	if !impl.MachineOK(m) {
		t.Fatalf("%v: the machine isn't OK for\n%s", what, short(impl.Print(p)))
	}
	maker := newMaker(int64(count))
	for k, n := range p.Nodes {
		wantPlay(t, what, p, m, k, maker.rowsFor(n, count))
	}
}

func TestTranslateAtRandom(t *testing.T) {
	seen := map[int]int{}
	for seed := range int64(4000) {
		p := passing(seed)
		wantTranslated(t, seed, p, int(seed%12))
		m := impl.Translate(p)
		if !fits(m) {
			t.Error("the machine of", seed, "isn't OK by the second reading")
		}
		for _, c := range m.Classes {
			for _, s := range c.Body {
				seen[s.Kind]++
			}
		}
	}
	for kind := impl.StmSet; kind <= impl.StmEnd; kind++ {
		if seen[kind] < 1000 {
			t.Error("too few statements", seen)
		}
	}
}

func TestTranslateDamagedPrograms(t *testing.T) {
	passed := 0
	for seed := range int64(4000) {
		p := newMaker(seed).damaged(passing(seed/4), 2)
		if code, _, _ := impl.Check(p); code == impl.CheckOK {
			wantTranslated(t, seed, p, 7)
			passed++
		}
	}
	if passed < 300 {
		t.Error("too few programs", passed)
	}
}

func TestTranslateMostRows(t *testing.T) {
	for seed := range int64(40) {
		wantTranslated(t, seed, passing(seed), impl.MaxRows)
	}
}

// The normal form has the same machine.
func TestTranslateNormalised(t *testing.T) {
	for seed := range int64(500) {
		p := passing(seed)
		if !sameMachine(impl.Translate(p), impl.Translate(impl.Normalise(p))) {
			t.Errorf("seed %d", seed)
		}
	}
}

type translateCase struct {
	what, src string
	// The lines of the last class, without those of its ends.
	lines []string
}

func wantClasses(t *testing.T, cases []translateCase) {
	t.Helper()
	for _, c := range cases {
		p := withFreshNames(parsed(t, c.src))
		text := impl.PrintMachine(impl.Translate(p))
		last := p.Nodes[len(p.Nodes)-1].Name
		want := "class " + last + "\n" + strings.Join(c.lines, "\n") + "\nendclass\n"
		if begin := strings.Index(text, "class "+last+"\n"); begin < 0 || text[begin:] != want {
			t.Errorf("%s:\n%s\nasked for\n%s", c.what, text, want)
		}
		wantTranslated(t, c.what, p, 25)
	}
}

func TestTranslateItems(t *testing.T) {
	head := "node f(x: int; b: bool) returns (z: int) "
	declared := []string{"in x int", "in b bool", "out z int"}
	right := func(expression, code string) translateCase {
		return translateCase{expression, head + "let z = " + expression + "; tel", append(slices.Clone(declared), "set z : "+code)}
	}
	truthful := func(expression, code string) translateCase {
		return right("if "+expression+" then 1 else 2", code+" 1 2 ?")
	}
	wantClasses(t, []translateCase{
		right("5", "5"), right("2147483647", "2147483647"), right("x", ".x"), right("- x", ".x neg"),
		right("x + 1", ".x 1 +"), right("x - 1", ".x 1 -"), right("x * 2", ".x 2 *"), right("x / 3", ".x 3 /"), right("x mod 3", ".x 3 mod"),
		truthful("true", "true"), truthful("false", "false"), truthful("b", ".b"), truthful("not b", ".b not"),
		truthful("x = 1", ".x 1 ="), truthful("x <> 1", ".x 1 <>"), truthful("x < 1", ".x 1 <"), truthful("x <= 1", ".x 1 <="),
		truthful("x > 1", ".x 1 >"), truthful("x >= 1", ".x 1 >="), truthful("b = true", ".b true ="),
		truthful("(b and true)", ".b true and"), truthful("(b or false)", ".b false or"), truthful("(b xor true)", ".b true xor"),
		right("if b then x else x + 1", ".b .x .x 1 + ?"),
		// When is left out; merge is an If of values.
		right("merge b (x when b) (- x whenot b)", ".b .x .x neg ?"),
		right("merge b 1 2", ".b 1 2 ?"),
		right("merge b ((x + 1) when b) 2", ".b .x 1 + 2 ?"),
		right("1 + merge b 1 2 * 3", "1 .b 1 2 ? 3 * +"),
		right("merge b 1 2 - merge b 3 4", ".b 1 2 ? .b 3 4 ? -"),
		right("merge b ((merge b 1 2) when b) 3", ".b .b 1 2 ? 3 ?"),
		right("merge b 1 ((merge b 2 3) whenot b)", ".b 1 .b 2 3 ? ?"),
		right("merge b ((merge b ((merge b 1 2) when b) 3) when b) ((merge b 4 5) whenot b)", ".b .b .b 1 2 ? 3 ? .b 4 5 ? ?"),
		right("if merge b ((x > 1) when b) (b whenot b) then merge b 6 7 else 8", ".b .x 1 > .b ? .b 6 7 ? 8 ?"),
	})
}

func TestTranslateMerges(t *testing.T) {
	wantClasses(t, []translateCase{
		{"merges in either operand, on different variables",
			"node f(a: bool; x: int) returns (z: int) var c: bool when a; d: bool whenot a; let c = (x > 0) when a; d = (x < 0) whenot a; z = merge a (merge c 1 2) (merge d 3 4); tel",
			[]string{"in a bool", "in x int", "out z int", "loc c", "loc d",
				"if a", "set c : .x 0 >", "else", "end", "if a", "else", "set d : .x 0 <", "end", "set z : .a .c 1 2 ? .d 3 4 ? ?"}},
		{"a merge of conditions", "node f(a: bool; b: bool; x: int) returns (z: int) let z = if merge a (b when a) (not b whenot a) then x else 0; tel",
			[]string{"in a bool", "in b bool", "in x int", "out z int", "set z : .a .b .b not ? .x 0 ?"}},
		{"a merge under an fby", "node f(a: bool; x: int) returns (z: int) let z = 4 fby merge a (x when a) ((x + 1) whenot a); tel",
			[]string{"in a bool", "in x int", "out z int", "mem 4", "set z : @0", "save 0 : .a .x .x 1 + ?"}},
		{"merges in arguments", "node g(p: int; q: int) returns (o: int) let o = p - q; tel node f(a: bool; x: int) returns (z: int) let z = g(merge a 1 2, - merge a (x when a) 3); tel",
			[]string{"in a bool", "in x int", "out z int", "use g", "call 0 z : .a 1 2 ? , .a .x 3 ? neg"}},
	})
}

func TestTranslateCells(t *testing.T) {
	wantClasses(t, []translateCase{
		{"the document's", "node count(reset: bool; step: int) returns (n: int) let n = if reset then 0 else (0 fby n) + step; tel",
			[]string{"in reset bool", "in step int", "out n int", "loc $1", "mem 0", "set $1 : @0", "set n : .reset 0 .$1 .step + ?", "save 0 : .n"}},
		{"first values", "node f(x: int; b: bool) returns (p: int; q: int; r: bool; s: bool) let p = -2147483647 fby x; q = 2147483647 fby x; r = true fby b; s = false fby b; tel",
			[]string{"in x int", "in b bool", "out p int", "out q int", "out r bool", "out s bool", "mem -2147483647", "mem 2147483647", "mem 1", "mem 0",
				"set p : @0", "set q : @1", "set r : @2", "set s : @3", "save 0 : .x", "save 1 : .x", "save 2 : .b", "save 3 : .b"}},
		// u waits for its condition, so its Set comes behind that of v; cells and saves stay as the equations are.
		{"cells by the equations, not by their order", "node f(x: int) returns (z: int) var u: int when d; v: int; d: bool; let u = 1 fby u; v = 2 fby x; d = x > 3; z = merge d u 4; tel",
			[]string{"in x int", "out z int", "loc u", "loc v", "loc d", "mem 1", "mem 2", "set v : @1", "set d : .x 3 >",
				"if d", "set u : @0", "else", "end", "set z : .d .u 4 ?", "if d", "save 0 : .u", "else", "end", "save 1 : .x"}},
		{"saves behind all else", "node f(x: int) returns (z: int) var a: int; let a = 7 fby z; z = a + x; tel",
			[]string{"in x int", "out z int", "loc a", "mem 7", "set a : @0", "set z : .a .x +", "save 0 : .z"}},
		// Each takes the other's value of this instant, not of the next.
		{"two that take turns", "node f() returns (a: int; b: int) let a = 1 fby b; b = 2 fby a; tel",
			[]string{"out a int", "out b int", "mem 1", "mem 2", "set a : @0", "set b : @1", "save 0 : .b", "save 1 : .a"}},
		{"inner ones stand before their equation", "node f(x: int) returns (z: int) var u: int; let u = 5 fby x; z = (6 fby (7 fby u)) + (8 fby x); tel",
			[]string{"in x int", "out z int", "loc u", "loc $1", "loc $2", "loc $3", "mem 5", "mem 7", "mem 6", "mem 8",
				"set u : @0", "set $1 : @1", "set $2 : @2", "set $3 : @3", "set z : .$2 .$3 +",
				"save 0 : .x", "save 1 : .u", "save 2 : .$1", "save 3 : .x"}},
		{"fresh names that are there", "node S9(S1: int) returns (S3: int) var S2: int; let S2 = 1 fby S1; S3 = S2 + (0 fby S2) + (4 fby 5); tel",
			[]string{"in $1 int", "out $3 int", "loc $2", "loc $4", "loc $5", "mem 1", "mem 0", "mem 4", "set $2 : @0", "set $4 : @1", "set $5 : @2",
				"set $3 : .$2 .$4 + .$5 +", "save 0 : .$1", "save 1 : .$2", "save 2 : 5"}},
	})
}

func TestTranslateCalls(t *testing.T) {
	others := "node id(i: int) returns (o: int) let o = i; tel node sum(i: int) returns (o: int) let o = (0 fby o) + i; tel " +
		"node two(i: int; b: bool) returns (p: int; q: bool) let p = sum(i); q = not b; tel node one() returns (o: int) let o = 1; tel "
	wantClasses(t, []translateCase{
		{"no arguments", others + "node f() returns (z: int) let z = one(); tel", []string{"out z int", "use one", "call 0 z :"}},
		{"several outputs and arguments", others + "node f(x: int; c: bool) returns (z: int; b: bool) let z, b = two(x + 1, not c); tel",
			[]string{"in x int", "in c bool", "out z int", "out b bool", "use two", "call 0 z b : .x 1 + , .c not"}},
		// The calls are made from the last to the first; the instances stand as the equations do.
		{"instances by the equations, not by their order", others + "node f(x: int) returns (z: int) var u: int; v: int; b: bool; let z = sum(u); u = id(v); v, b = two(x, true); tel",
			[]string{"in x int", "out z int", "loc u", "loc v", "loc b", "use sum", "use id", "use two",
				"call 2 v b : .x , true", "call 1 u : .v", "call 0 z : .u"}},
		{"one node more than once", others + "node f(x: int) returns (z: int; y: int) let z = sum(x); y = sum(z); tel",
			[]string{"in x int", "out z int", "out y int", "use sum", "use sum", "call 0 z : .x", "call 1 y : .z"}},
		{"instances and cells have numbers of their own", others + "node f(x: int) returns (z: int) var u: int; v: int; w: int; let u = 3 fby x; v = sum(u); w = 4 fby v; z = id(w + (5 fby x)); tel",
			[]string{"in x int", "out z int", "loc u", "loc v", "loc w", "loc $1", "mem 3", "mem 4", "mem 5", "use sum", "use id",
				"set u : @0", "call 0 v : .u", "set w : @1", "set $1 : @2", "call 1 z : .w .$1 +", "save 0 : .x", "save 1 : .v", "save 2 : .x"}},
		{"within clocks", others + "node f(x: int; c: bool) returns (z: int) var d: bool when c; a: int when c; b: bool when c; e: int when c whenot d; " +
			"let d = (x > 1) when c; a, b = two((2 fby x) when c, true fby (c when c)); e = sum(a whenot d); z = merge c (merge d 1 e) 0; tel",
			[]string{"in x int", "in c bool", "out z int", "loc d", "loc a", "loc b", "loc e", "loc $1", "loc $2", "mem 2", "mem 1", "use two", "use sum",
				"if c", "set d : .x 1 >", "else", "end",
				"set $1 : @0",
				"if c", "set $2 : @1", "else", "end",
				"if c", "call 0 a b : .$1 , .$2", "else", "end",
				"if c", "if d", "else", "call 1 e : .a", "end", "else", "end",
				"set z : .c .d 1 .e ? 0 ?",
				"save 0 : .x",
				"if c", "save 1 : .c", "else", "end"}},
	})
}

func TestTranslateClocks(t *testing.T) {
	head := "node f(x: int; a: bool) returns (z: int) "
	lines := []string{"in x int", "in a bool", "out z int"}
	var deepHead, deepEnd []string
	for i := range impl.MaxClock {
		if i%3 != 1 {
			deepHead, deepEnd = append(deepHead, "if d"+strconv.Itoa(i)), append([]string{"else", "end"}, deepEnd...)
		} else {
			deepHead, deepEnd = append(deepHead, "if d"+strconv.Itoa(i), "else"), append([]string{"end"}, deepEnd...)
		}
	}
	wantClasses(t, []translateCase{
		{"on", head + "var u: int when a; let u = x when a; z = merge a u 0; tel",
			append(slices.Clone(lines), "loc u", "if a", "set u : .x", "else", "end", "set z : .a .u 0 ?")},
		{"not on", head + "var u: int whenot a; let u = x whenot a; z = merge a 0 u; tel",
			append(slices.Clone(lines), "loc u", "if a", "else", "set u : .x", "end", "set z : .a 0 .u ?")},
		{"on, not on and on", head + "var b: bool when a; c: bool when a whenot b; u: int when a whenot b when c; " +
			"let b = (x > 5) when a; c = (x < 3) when a whenot b; u = 6 fby (u + 1); z = merge a (merge b 1 (merge c u 2)) 3; tel",
			append(slices.Clone(lines), "loc b", "loc c", "loc u", "mem 6",
				"if a", "set b : .x 5 >", "else", "end",
				"if a", "if b", "else", "set c : .x 3 <", "end", "else", "end",
				"if a", "if b", "else", "if c", "set u : @0", "else", "end", "end", "else", "end",
				"set z : .a .b 1 .c .u 2 ? ? 3 ?",
				"if a", "if b", "else", "if c", "save 0 : .u 1 +", "else", "end", "end", "else", "end")},
		{"an fby under when is saved each time", head + "var u: int when a; let u = (0 fby x) when a; z = merge a u 0; tel",
			append(slices.Clone(lines), "loc u", "loc $1", "mem 0", "set $1 : @0", "if a", "set u : .$1", "else", "end", "set z : .a .u 0 ?", "save 0 : .x")},
		{"an fby over when is saved in its clock", head + "var u: int whenot a; let u = 0 fby (x whenot a); z = merge a 0 u; tel",
			append(slices.Clone(lines), "loc u", "mem 0", "if a", "else", "set u : @0", "end", "set z : .a 0 .u ?", "if a", "else", "save 0 : .x", "end")},
		{"in the branches of a merge", head + "let z = merge a (1 fby (x when a)) (2 fby (x whenot a)); tel",
			append(slices.Clone(lines), "loc $1", "loc $2", "mem 1", "mem 2", "if a", "set $1 : @0", "else", "end", "if a", "else", "set $2 : @1", "end",
				"set z : .a .$1 .$2 ?", "if a", "save 0 : .x", "else", "end", "if a", "else", "save 1 : .x", "end")},
	})
	// The deepest clock: the statement of u, among all others.
	text := impl.PrintMachine(impl.Translate(parsed(t, deepNode("5 + x CLOCK"))))
	if block := strings.Join(slices.Concat(deepHead, []string{"set u : 5 .x +"}, deepEnd), "\n"); !strings.Contains(text, "\n"+block+"\n") {
		t.Errorf("%s\nhas no\n%s", text, block)
	}
}

func TestTranslateNothing(t *testing.T) {
	wantMachine(t, "no program", impl.Translate(impl.Program{}), false)
	wantMachine(t, "a program", impl.Translate(one(plain("z", number(1)))), true)
}

// busiest gives as many statements as a node can have: nearly all of its variables are fbys in the deepest clock.
func busiest() impl.Program {
	n := impl.Node{Name: "f", Ins: []impl.Var{boolVar("c0")}, Outs: []impl.Var{intVar("z")}, Eqs: []impl.Equation{plain("z", number(1))}}
	clock := []impl.Cond{on("c0")}
	for i := 1; i < impl.MaxClock; i++ {
		s := "c" + strconv.Itoa(i)
		n.Vars = append(n.Vars, boolVar(s, slices.Clone(clock)...))
		n.Eqs = append(n.Eqs, plain(s, truth(1)))
		clock = append(clock, on(s))
	}
	for i := len(n.Vars) + 2; i < impl.MaxVars; i++ {
		s := "v" + strconv.Itoa(i)
		n.Vars = append(n.Vars, intVar(s, slices.Clone(clock)...))
		n.Eqs = append(n.Eqs, plain(s, name(s), fby(i)))
	}
	return impl.Program{Nodes: []impl.Node{n}}
}

// longest gives an expression of MaxItems items, a third of them merges, all of which begin at the first item.
func longest() itemList {
	items := code(number(1))
	for len(items)+3 <= impl.MaxItems {
		items = append(items, when("c"), number(2), merge("c"))
	}
	return append(items, slices.Repeat(code(op(impl.OpNeg)), impl.MaxItems-len(items))...)
}

// widest gives a sum of 750 merges.
func widest() itemList {
	sum := code(number(1), number(2), merge("c"))
	for i := range 749 {
		sum = append(sum, number(i), number(2), merge("c"), op(impl.OpAdd))
	}
	return sum
}

func TestTranslateAtTheLimits(t *testing.T) {
	busy := busiest()
	wantTranslated(t, "many statements", busy, 20)
	if size := len(impl.Translate(busy).Classes[0].Body); size < 24000 {
		t.Error("only", size, "statements")
	}
	for size, items := range map[int]itemList{3000: longest(), 3749: widest()} {
		n := impl.Node{Name: "f", Ins: []impl.Var{boolVar("c")}, Outs: []impl.Var{intVar("z")}, Eqs: []impl.Equation{plain("z", items...)}}
		long := impl.Program{Nodes: []impl.Node{n}}
		wantTranslated(t, "long code", long, 20)
		if got := len(impl.Translate(long).Classes[0].Body[0].Code); got != size {
			t.Error("code of", got, "items")
		}
	}
	wantTranslated(t, "a long order", chained(), 5)
	wantTranslated(t, "the deepest clock", parsed(t, deepNode("(0 fby u) + (1 fby x CLOCK)")), 200)
	for _, p := range []impl.Program{{Nodes: []impl.Node{heavy("f", impl.MaxWeight)}}, fullProgram()} {
		m := impl.Translate(p)
		if !impl.MachineOK(m) {
			t.Error("not OK")
		}
		last := len(p.Nodes) - 1
		wantPlay(t, "great", p, m, last, newMaker(1).rowsFor(p.Nodes[last], 3))
	}
}

// fullProgram gives MaxNodes nodes, each of them called by the next, with the greatest weight that this leaves.
func fullProgram() impl.Program {
	var p impl.Program
	for i := range impl.MaxNodes {
		n := heavy("n"+strconv.Itoa(i), 90)
		n.Vars = append(n.Vars, intVar("u"))
		n.Eqs = append(n.Eqs, plain("u", number(i), fby(i), op(impl.OpNeg)))
		if i > 0 {
			n.Eqs[len(n.Eqs)-1] = call([]string{"u"}, "n"+strconv.Itoa(i-1))
		}
		p.Nodes = append(p.Nodes, n)
	}
	return p
}
