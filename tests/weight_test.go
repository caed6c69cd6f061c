package tests

import (
	"math"
	"strconv"
	"testing"

	"loop.example/s0043/impl"
)

// Weight, by 2.1.

func wantWeight(t *testing.T, what any, p impl.Program, node, weight int) {
	t.Helper()
	if got := impl.Weight(p, node); got != weight {
		t.Errorf("%v: node %d weighs %d, asked for %d", what, node, got, weight)
	}
}

func TestWeightTerms(t *testing.T) {
	cases := []struct {
		eqs    []impl.Equation
		weight int
	}{
		{[]impl.Equation{plain("z", number(1))}, 1 + 2},
		{[]impl.Equation{plain("z", number(1)), plain("y", number(1))}, 1 + 2 + 2},
		{[]impl.Equation{plain("z", number(1), number(2), op(impl.OpAdd))}, 1 + 4},
		{[]impl.Equation{plain("z", truth(1), number(1), number(2), op(impl.OpIf))}, 1 + 5},
		{[]impl.Equation{plain("z", name("x"), when("c"), name("y"), merge("c"))}, 1 + 5},
		// A fby at the end of a Code isn't inner.
		{[]impl.Equation{plain("z", name("x"), fby(1))}, 1 + 3},
		{[]impl.Equation{plain("z", name("x"), fbyB(1))}, 1 + 3},
		{[]impl.Equation{plain("z", name("x"), fby(1), op(impl.OpNeg))}, 1 + 4 + 2},
		{[]impl.Equation{plain("z", name("x"), fbyB(1), op(impl.OpNot))}, 1 + 4 + 2},
		{[]impl.Equation{plain("z", name("x"), fby(1), fby(2))}, 1 + 4 + 2},
		{[]impl.Equation{plain("z", name("x"), fby(1), name("x"), fbyB(2-1), op(impl.OpAdd))}, 1 + 6 + 4},
		{[]impl.Equation{plain("z", name("x"), fby(1), name("x"), fby(1), merge("c"), fby(3))}, 1 + 7 + 4},
		// All those in Args are inner.
		{[]impl.Equation{call([]string{"z"}, "none")}, 1 + 1},
		{[]impl.Equation{call([]string{"z", "y", "x"}, "none")}, 1 + 1},
		{[]impl.Equation{call([]string{"z"}, "none", code(number(1)), code(number(1), op(impl.OpNeg)))}, 1 + 1 + 3},
		{[]impl.Equation{call([]string{"z"}, "none", code(number(1), fby(1)))}, 1 + 1 + 2 + 2},
		{[]impl.Equation{call([]string{"z"}, "none", code(number(1)), code(number(1), fby(1)), code(truth(1), fbyB(1), fbyB(0)))}, 1 + 1 + 6 + 6},
	}
	for i, c := range cases {
		wantWeight(t, i, one(c.eqs...), 0, c.weight)
	}
}

func TestWeightOfCalls(t *testing.T) {
	p := parsed(t, `
node a() returns (z: int) let z = 1; tel
node b() returns (z: int) let z = a(); z = a(x, y); tel
node a() returns (z: int) let z = 1 + 1 + 1 + 1; tel
node c() returns (z: int) let z = a(); tel
node d() returns (z: int) let z = d(); tel
node e() returns (z: int) let z = f(); tel
node f() returns (z: int) let z = e(b); z = g(); tel
node d() returns (z: int) let z = d(); z = b(); tel`)
	for node, weight := range []int{3, 1 + 4 + 6, 9, 1 + 4, 2, 2, 1 + 2 + 2 + 1, 1 + 3 + 12} {
		wantWeight(t, "calls", p, node, weight)
	}
}

func TestWeightOfNothing(t *testing.T) {
	p := parsed(t, "node f() returns (z: int) let z = 1; tel node g() returns (z: int) let z = f(); tel")
	for _, node := range []int{-1, 2, 3, math.MinInt, math.MaxInt} {
		wantWeight(t, "no node", p, node, -1)
	}
	wantWeight(t, "no nodes", impl.Program{}, 0, -1)
	p.Nodes = append(p.Nodes, impl.Node{Name: "bad"})
	for node := range 3 {
		wantWeight(t, "no shape", p, node, -1)
	}
}

func TestWeightIsCutOff(t *testing.T) {
	for weight := impl.MaxWeight - 2; weight <= impl.MaxWeight+3; weight++ {
		wantWeight(t, weight, impl.Program{Nodes: []impl.Node{heavy("f", weight)}}, 0, min(weight, impl.MaxWeight+1))
	}
	wantWeight(t, "great", impl.Program{Nodes: []impl.Node{heavy("f", 1000000)}}, 0, impl.MaxWeight+1)
}

// Along a chain weights grow without end: by 2 if each node is called once, and twofold if it is called twice.
func TestWeightAlongChains(t *testing.T) {
	for calls := 1; calls <= 2; calls++ {
		p := impl.Program{Nodes: []impl.Node{heavy("n0", 19800)}}
		if calls == 2 {
			p.Nodes[0] = heavy("n0", 5)
		}
		want := impl.Weight(p, 0)
		for i := 1; i < impl.MaxNodes; i++ {
			n := impl.Node{Name: "n" + strconv.Itoa(i), Outs: []impl.Var{intVar("z")}}
			for range calls {
				n.Eqs = append(n.Eqs, call([]string{"z"}, "n"+strconv.Itoa(i-1)))
			}
			p.Nodes = append(p.Nodes, n)
		}
		for i := 1; i < impl.MaxNodes; i++ {
			want = min(1+calls*(1+want), impl.MaxWeight+1)
			wantWeight(t, calls, p, i, want)
		}
	}
}

func TestWeightOfRandomPrograms(t *testing.T) {
	for seed := range int64(3000) {
		p := newMaker(seed).program()
		if seed%2 == 0 {
			p = passing(seed)
		}
		for node := range p.Nodes {
			wantWeight(t, seed, p, node, weightOf(p, node))
		}
	}
}
