package tests

import (
	"math"
	"slices"
	"strconv"
	"testing"

	"loop.example/s0043/impl"
)

// Promise 7: Order.

func wantOrder(t *testing.T, what any, p impl.Program, node int, want ...int) {
	t.Helper()
	if got := impl.Order(p, node); !slices.Equal(got, want) {
		t.Errorf("%v: %v, asked for %v", what, got, want)
	}
}

// wantReady asks for what the promise says in so many words: each equation once, each behind what it reads at once.
func wantReady(t *testing.T, what any, p impl.Program, node int) {
	t.Helper()
	n := p.Nodes[node]
	order := impl.Order(p, node)
	sorted := slices.Sorted(slices.Values(order))
	for e := range n.Eqs {
		if len(sorted) != len(n.Eqs) || sorted[e] != e {
			t.Fatalf("%v: %v for %d equations", what, order, len(n.Eqs))
		}
	}
	f := &finder{node: n, vars: slices.Concat(n.Ins, n.Outs, n.Vars)}
	for at, e := range order {
		for _, later := range order[at:] {
			for _, s := range n.Eqs[later].Lhs {
				if slices.Contains(f.reads(n.Eqs[e]), s) {
					t.Fatalf("%v: in %v equation %d reads %s of equation %d", what, order, e, s, later)
				}
			}
		}
	}
}

func TestOrderAtRandom(t *testing.T) {
	moved := 0
	for seed := range int64(4000) {
		p := passing(seed)
		for _, q := range []impl.Program{p, impl.Normalise(p)} {
			for k, n := range q.Nodes {
				wantOrder(t, seed, q, k, orderAgain(n)...)
				wantReady(t, seed, q, k)
				if !slices.IsSorted(impl.Order(q, k)) {
					moved++
				}
			}
		}
	}
	if moved < 1000 {
		t.Error("too few programs", moved)
	}
}

func TestOrderOfDamagedPrograms(t *testing.T) {
	for seed := range int64(2000) {
		p := newMaker(seed).damaged(passing(seed/4), 2)
		if code, _, _ := impl.Check(p); code != impl.CheckOK {
			continue
		}
		for k, n := range p.Nodes {
			wantOrder(t, seed, p, k, orderAgain(n)...)
			wantReady(t, seed, p, k)
		}
	}
}

func TestOrders(t *testing.T) {
	calls := "node one(i: int) returns (o: int) let o = i; tel node two(i: int; j: int) returns (o: int; p: int) let o = i; p = j; tel "
	head := "node f(x: int; c: bool) returns (y: int) "
	cases := []struct {
		what, node string
		want       []int
	}{
		{"one", "let y = x; tel", []int{0}},
		{"all ready", "var a: int; b: int; let y = x; a = x; b = 1; tel", []int{0, 1, 2}},
		{"ready from the last", "var a: int; b: int; let y = a; a = b; b = x; tel", []int{2, 1, 0}},
		{"ready as they stand", "var a: int; b: int; let a = x; b = a; y = b; tel", []int{0, 1, 2}},
		{"one that is ready late", "var a: int; b: int; d: int; let y = d; a = x; b = 2; d = b + a; tel", []int{1, 2, 3, 0}},
		{"the least, not the next", "var a: int; b: int; d: int; e: int; let a = d; b = e; y = 1; d = 2; e = d; tel", []int{2, 3, 0, 4, 1}},
		{"the least goes ahead of one that was ready before", "var a: int; b: int; d: int; let a = b; b = 1; d = 2; y = 3; tel", []int{1, 0, 2, 3}},
		{"one that waits for two", "var a: int; b: int; d: int; let y = a + b; a = d; b = 1; d = 2; tel", []int{2, 3, 1, 0}},
		{"one read many times", "var a: int; let y = a + a * a - a; a = x; tel", []int{1, 0}},
		{"two that wait for one", "var a: int; b: int; let y = a; b = a; a = x; tel", []int{2, 0, 1}},
		{"if reads all three", "var a: bool; b: int; d: int; let y = if a then b else d; d = 1; b = 2; a = c; tel", []int{1, 2, 3, 0}},
		// fby.
		{"a last fby reads later", "var a: int; let y = 0 fby a; a = x; tel", []int{0, 1}},
		{"a last fby of itself", "let y = 0 fby y; tel", []int{0}},
		{"an inner fby reads later", "var a: int; let y = x + (0 fby a); a = y; tel", []int{0, 1}},
		{"beside an inner fby", "var a: int; b: int; let y = (0 fby a) + b; a = y; b = 1; tel", []int{2, 0, 1}},
		{"before an inner fby", "var a: int; b: int; let y = b - (0 fby a); a = y; b = 1; tel", []int{2, 0, 1}},
		{"within an fby all is read later", "var a: int; d: bool; let y = 0 fby merge d (a when d) ((if d then 1 else a) whenot d); a = y; d = a > 0; tel", []int{0, 1, 2}},
		{"an fby of bools", "var d: bool; let y = if true fby d then 1 else 2; d = y = 1; tel", []int{0, 1}},
		// Clocks, when and merge.
		{"a clock", "var u: int when d; d: bool; let u = 1; d = c; y = 2; tel", []int{1, 0, 2}},
		{"a clock whenot", "var u: int whenot d; d: bool; let u = 1; d = c; y = 2; tel", []int{1, 0, 2}},
		{"the clock of a last fby", "var u: int when d; d: bool; let u = 0 fby u; d = c; y = 2; tel", []int{1, 0, 2}},
		{"both conditions of a clock", "var u: int when d when e; e: bool when d; d: bool; let u = 1; e = true; d = c; y = 2; tel", []int{2, 1, 0, 3}},
		{"a clock on an input", "var u: int when c; let u = 1; y = 2; tel", []int{0, 1}},
		{"when reads its operand", "var u: int when c; a: int; let u = a when c; y = 2; a = x; tel", []int{1, 2, 0}},
		{"when under merge", "var d: bool; a: int; let y = merge d (a when d) 3; d = c; a = x; tel", []int{1, 2, 0}},
		{"merge reads its condition", "var d: bool; let y = merge d 1 2; d = c; tel", []int{1, 0}},
		{"merge reads both", "var u: int when c; v: int whenot c; let y = merge c u v; v = 1; u = 2; tel", []int{1, 2, 0}},
		{"a delayed condition", "var d: bool; let y = merge d 1 2; d = true fby y > 1; tel", []int{1, 0}},
		// Calls.
		{"arguments", "var a: int; let y = one(a); a = x; tel", []int{1, 0}},
		{"both arguments", "var a: int; b: int; d: int; let y, d = two(a, b); b = 1; a = 2; tel", []int{1, 2, 0}},
		{"an fby in an argument", "var a: int; let y = one(0 fby a); a = y; tel", []int{0, 1}},
		{"one argument of two", "var a: int; b: int; d: int; let y, d = two(0 fby a, b); a = y; b = 1; tel", []int{2, 0, 1}},
		{"all that a call gives", "var a: int; b: int; d: int; let y = b; d = a; a, b = two(x, x); tel", []int{2, 0, 1}},
		{"the clock of a call", "var u: int when d; v: int when d; d: bool; let u, v = two(1, 2); y = 1; d = c; tel", []int{1, 2, 0}},
	}
	for _, c := range cases {
		p := parsed(t, calls+head+c.node)
		wantOrder(t, c.what, p, 2, c.want...)
		wantOrder(t, "the first node", p, 0, 0)
		wantOrder(t, "the second node", p, 1, 0, 1)
		wantReady(t, c.what, p, 2)
		if again := orderAgain(p.Nodes[2]); !slices.Equal(again, c.want) {
			t.Errorf("%s: the second reading gives %v", c.what, again)
		}
	}
}

func TestOrderOfNoNode(t *testing.T) {
	p := parsed(t, "node f() returns (z: int) let z = 1; tel node g() returns (z: int) let z = 1; tel")
	wantOrder(t, "the last node", p, 1, 0)
	for _, node := range []int{math.MinInt, -2, -1, 2, 3, 200, math.MaxInt} {
		wantOrder(t, node, p, node)
	}
}

// chained gives MaxEqs equations, each of which reads the next.
func chained() impl.Program {
	n := impl.Node{Name: "f", Outs: []impl.Var{intVar("v0")}}
	for i := range impl.MaxEqs {
		s, next := "v"+strconv.Itoa(i), "v"+strconv.Itoa(i+1)
		if i > 0 {
			n.Vars = append(n.Vars, intVar(s))
		}
		n.Eqs = append(n.Eqs, plain(s, name(next), name(next), op(impl.OpAdd)))
	}
	n.Eqs[impl.MaxEqs-1].Code = code(number(1))
	return impl.Program{Nodes: []impl.Node{n}}
}

func TestOrderAtTheLimits(t *testing.T) {
	p := chained()
	want := make([]int, impl.MaxEqs)
	for i := range want {
		want[i] = impl.MaxEqs - 1 - i
	}
	wantOrder(t, "from the last", p, 0, want...)
	slices.Reverse(p.Nodes[0].Eqs)
	slices.Reverse(want)
	wantOrder(t, "from the first", p, 0, want...)
	for seed := range int64(5) {
		newMaker(seed).Shuffle(len(want), func(i, j int) {
			p.Nodes[0].Eqs[i], p.Nodes[0].Eqs[j] = p.Nodes[0].Eqs[j], p.Nodes[0].Eqs[i]
		})
		wantOrder(t, seed, p, 0, orderAgain(p.Nodes[0])...)
	}
}
