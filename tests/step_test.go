package tests

import (
	"math"
	"slices"
	"testing"

	"loop.example/s0043/impl"
)

// Promise 9: Step.

func wantStep(t *testing.T, m impl.Machine, class int, state, ins, after, outs []int, cost int) {
	t.Helper()
	gotAfter, gotOuts, gotCost := impl.Step(m, class, state, ins)
	if !slices.Equal(gotAfter, after) || !slices.Equal(gotOuts, outs) || gotCost != cost {
		t.Errorf("class %d, state %v, inputs %v: %v, %v, cost %d; asked for %v, %v, cost %d of\n%s", class, state, ins,
			gotAfter, gotOuts, gotCost, after, outs, cost, short(impl.PrintMachine(m)))
	}
}

// wantWithin asks for what the promise says in so many words.
func wantWithin(t *testing.T, m impl.Machine, class int, state, ins []int) {
	t.Helper()
	after, outs, cost := impl.Step(m, class, state, ins)
	if len(after) != impl.Cells(m, class) || len(outs) != len(m.Classes[class].Outs) || cost < 0 || cost > impl.Bound(m, class) {
		t.Errorf("%d cells, %d outputs, cost %d, bound %d", len(after), len(outs), cost, impl.Bound(m, class))
	}
	for _, v := range slices.Concat(after, outs) {
		if !isValueOf(v) {
			t.Errorf("%d isn't a value", v)
		}
	}
}

func TestStepsAtRandom(t *testing.T) {
	for seed := range int64(4000) {
		maker := newMaker(seed)
		m := maker.machine()
		for k := range m.Classes {
			for range 3 {
				state, ins := maker.valuesFor(m, k)
				after, outs, cost := stepFlat(m, k, state, ins)
				wantStep(t, m, k, state, ins, after, outs, cost)
				wantWithin(t, m, k, state, ins)
			}
		}
	}
}

func TestStepsInARow(t *testing.T) {
	for seed := range int64(500) {
		maker := newMaker(seed)
		m := maker.machine()
		last := len(m.Classes) - 1
		state := impl.Reset(m, last)
		for range 8 {
			_, ins := maker.valuesFor(m, last)
			after, outs, cost := stepFlat(m, last, state, ins)
			wantStep(t, m, last, state, ins, after, outs, cost)
			state, _, _ = impl.Step(m, last, state, ins)
		}
	}
}

// computing gives a class with three inputs, one output, and a cell, that sets the output and saves it.
func computing(items ...impl.Item) impl.Machine {
	return machine(impl.Class{
		Name: "k", Ins: numbered("i", 3), Outs: []impl.Slot{slot("o")}, Mems: []int{0}, Body: stms(set("o", items...), save(0, items...)),
	})
}

func TestStepOperators(t *testing.T) {
	values := append(slices.Clone(ends), 5, -5, 2, 4, 256)
	for o := impl.OpNeg; o <= impl.OpXor; o++ {
		items := code(name("i0"), name("i1"), op(o))
		if arity(o) == 1 {
			items = code(name("i0"), op(o))
		}
		m := computing(items...)
		for _, a := range values {
			for _, b := range values {
				want := oddResult(op(o), []int{a, b}[:arity(o)])
				wantStep(t, m, 0, []int{9}, []int{a, b, 0}, []int{want}, []int{want}, 2)
			}
		}
	}
	choose := computing(name("i0"), name("i1"), name("i2"), op(impl.OpIf))
	for _, a := range values {
		want := 10
		if a == 0 {
			want = 20
		}
		wantStep(t, choose, 0, []int{9}, []int{a, 10, 20}, []int{want}, []int{want}, 2)
	}
}

func TestStepOperatorsInNumbers(t *testing.T) {
	const least, most = math.MinInt32, math.MaxInt32
	cases := []struct{ op, a, b, want int }{
		{impl.OpNeg, least, 0, least}, {impl.OpNeg, most, 0, -most}, {impl.OpNot, 0, 0, 1}, {impl.OpNot, 1, 0, 0}, {impl.OpNot, -5, 0, 0},
		{impl.OpNot, least, 0, 0}, {impl.OpAdd, most, 1, least}, {impl.OpSub, least, 1, most}, {impl.OpMul, 65536, 65536, 0},
		{impl.OpMul, least, -1, least}, {impl.OpMul, most, most, 1}, {impl.OpDiv, least, -1, least}, {impl.OpDiv, -7, 2, -3},
		{impl.OpDiv, 7, -2, -3}, {impl.OpDiv, 5, 0, 0}, {impl.OpMod, least, -1, 0}, {impl.OpMod, -7, 2, -1}, {impl.OpMod, 7, -2, 1},
		{impl.OpMod, 5, 0, 0}, {impl.OpMod, -7, 3, -1}, {impl.OpEq, 2, 1, 0}, {impl.OpNe, 2, 1, 1}, {impl.OpLt, least, most, 1},
		{impl.OpLe, most, least, 0}, {impl.OpGt, most, least, 1}, {impl.OpGe, 3, 3, 1},
		{impl.OpAnd, 2, 4, 1}, {impl.OpAnd, 2, 1, 1}, {impl.OpAnd, -1, 0, 0}, {impl.OpOr, 2, 0, 1}, {impl.OpOr, 0, -8, 1}, {impl.OpOr, 0, 0, 0},
		{impl.OpOr, 3, 3, 1}, {impl.OpXor, 2, 4, 0}, {impl.OpXor, 2, 1, 0}, {impl.OpXor, 0, 7, 1}, {impl.OpXor, least, 0, 1}, {impl.OpXor, 0, 0, 0},
	}
	for _, c := range cases {
		items := code(name("i0"), name("i1"), op(c.op))
		if arity(c.op) == 1 {
			items = code(name("i0"), op(c.op))
		}
		wantStep(t, computing(items...), 0, []int{0}, []int{c.a, c.b, 0}, []int{c.want}, []int{c.want}, 2)
	}
}

func TestStepLeaves(t *testing.T) {
	for _, c := range []struct {
		item impl.Item
		want int
	}{
		{number(0), 0}, {number(impl.MaxInt), impl.MaxInt}, {truth(0), 0}, {truth(1), 1}, {name("i2"), -6}, {mem(0), 11}, {name("o"), 0},
	} {
		m := computing(c.item)
		m.Classes[0].Body = m.Classes[0].Body[:1]
		wantStep(t, m, 0, []int{11}, []int{1, 2, -6}, []int{11}, []int{c.want}, 1)
	}
}

func TestStepOrderOfOperands(t *testing.T) {
	// 1 - (2 - (3 - 4)), and (1 - 2) - 3 chosen by one of them.
	m := computing(number(1), number(2), number(3), number(4), op(impl.OpSub), op(impl.OpSub), op(impl.OpSub))
	wantStep(t, m, 0, []int{0}, []int{0, 0, 0}, []int{-2}, []int{-2}, 2)
	m = computing(number(1), number(2), op(impl.OpSub), number(3), number(4), op(impl.OpIf), number(5), op(impl.OpMul))
	wantStep(t, m, 0, []int{0}, []int{0, 0, 0}, []int{15}, []int{15}, 2)
}

func TestStepLongCode(t *testing.T) {
	half := impl.MaxCode / 2
	wide := slices.Concat(slices.Repeat(code(name("i0")), half), slices.Repeat(code(op(impl.OpAdd)), half-1))
	wantStep(t, computing(wide...), 0, []int{0}, []int{7, 0, 0}, []int{7 * half}, []int{7 * half}, 2)
	long := append(code(name("i0")), slices.Repeat(code(op(impl.OpNeg)), impl.MaxCode-1)...)
	wantStep(t, computing(long...), 0, []int{0}, []int{7, 0, 0}, []int{-7}, []int{-7}, 2)
}

func TestStepValuesOfAnyType(t *testing.T) {
	// Neither an input nor an output, a cell or a condition has to be 0 or 1 where its type is bool.
	c := owner(slices.Concat(stms(set("o", name("c"))), branches("c", stms(set("p", number(8))), stms(set("p", number(9)))))...)
	c.Outs[0].Type = impl.TypeBool
	m := machine(leaf(), c)
	for v, p := range map[int]int{0: 9, 1: 8, 2: 8, -1: 8, math.MinInt32: 8, math.MaxInt32: 8} {
		wantStep(t, m, 1, []int{1, 2, 3, 4}, []int{0, v}, []int{1, 2, 3, 4}, []int{v, p}, 3)
	}
}

func TestStepBeginsWithZeros(t *testing.T) {
	m := owning(set("o", name("l"), name("$1"), op(impl.OpSub), name("p"), op(impl.OpAdd), name("o"), op(impl.OpAdd), number(5), op(impl.OpAdd)))
	wantStep(t, m, 1, []int{1, 2, 3, 4}, []int{6, 7}, []int{1, 2, 3, 4}, []int{5, 0}, 1)
	// Also the second time that an instance is called in one step, and when another class has been called in between.
	odd := impl.Class{Name: "odd", Outs: []impl.Slot{slot("o"), slot("p")}, Locs: []string{"l"}, Body: stms(
		set("o", name("l"), name("o"), op(impl.OpAdd), name("p"), op(impl.OpAdd), number(1), op(impl.OpAdd)), set("l", number(50)), set("p", number(60)))}
	user := impl.Class{Name: "user", Outs: numbered("o", 4), Locs: []string{"a", "b"}, Insts: []int{1, 0}, Body: stms(
		invoke(0, []string{"o0", "a"}), invoke(1, []string{"o3", "b"}, code(number(9))), invoke(0, []string{"o1", "o2"}))}
	wantStep(t, machine(leaf(), odd, user), 2, []int{4}, nil, []int{13}, []int{1, 1, 60, 13}, 3+3+3+3)
	// A variable that no statement reached keeps its 0, and what it had in the step before is gone.
	m = owning(branches("c", stms(set("o", number(5))), nil)...)
	wantStep(t, m, 1, []int{1, 2, 3, 4}, []int{0, 0}, []int{1, 2, 3, 4}, []int{0, 0}, 1)
}

func TestStepSaves(t *testing.T) {
	state := []int{10, 20, 30, 40}
	for _, c := range []struct {
		what        string
		body        stmList
		after, outs []int
	}{
		{"read before", stms(set("o", mem(0)), save(0, number(5))), []int{5, 20, 30, 40}, []int{10, 0}},
		{"read behind", stms(save(0, number(5)), set("o", mem(0))), []int{5, 20, 30, 40}, []int{5, 0}},
		{"both", stms(set("o", mem(1)), save(1, number(5)), set("p", mem(1))), []int{10, 5, 30, 40}, []int{20, 5}},
		{"of itself", stms(save(0, mem(0), number(1), op(impl.OpAdd)), save(0, mem(0), mem(0), op(impl.OpAdd))), []int{22, 20, 30, 40}, []int{0, 0}},
		{"swapped", stms(set("l", mem(0)), save(0, mem(1)), save(1, name("l"))), []int{20, 10, 30, 40}, []int{0, 0}},
		{"one behind the other", stms(save(0, mem(1)), save(1, mem(0))), []int{20, 20, 30, 40}, []int{0, 0}},
		{"twice", stms(save(0, number(1)), save(0, number(2)), set("o", mem(0))), []int{2, 20, 30, 40}, []int{2, 0}},
		{"none", stms(set("o", mem(0)), set("p", mem(1))), []int{10, 20, 30, 40}, []int{10, 20}},
	} {
		m := owning(c.body...)
		wantStep(t, m, 1, state, []int{0, 0}, c.after, c.outs, len(c.body))
		if !slices.Equal(state, []int{10, 20, 30, 40}) {
			t.Fatal(c.what, "the state that was handed in was written into")
		}
	}
}

func TestStepCalls(t *testing.T) {
	x := code(name("i"))
	state := []int{1, 2, 30, 40}
	for _, c := range []struct {
		what        string
		body        stmList
		after, outs []int
		cost        int
	}{
		{"the first instance", stms(invoke(0, []string{"o", "p"}, x)), []int{1, 2, 35, 40}, []int{35, 1}, 4},
		{"the second instance", stms(invoke(1, []string{"o", "p"}, x)), []int{1, 2, 30, 45}, []int{45, 1}, 4},
		{"outputs the other way round", stms(invoke(1, []string{"p", "o"}, x)), []int{1, 2, 30, 45}, []int{1, 45}, 4},
		{"outputs to local variables", stms(invoke(0, []string{"l", "$1"}, x), set("o", name("l"), name("$1"), op(impl.OpSub))), []int{1, 2, 35, 40}, []int{34, 0}, 5},
		{"one twice", stms(invoke(0, []string{"o", "p"}, x), invoke(0, []string{"l", "p"}, code(name("o")))), []int{1, 2, 70, 40}, []int{35, 1}, 8},
		{"both", stms(invoke(1, []string{"o", "l"}, x), invoke(0, []string{"p", "l"}, code(name("o")))), []int{1, 2, 75, 45}, []int{45, 75}, 8},
		{"an argument from a cell", stms(save(0, number(9)), invoke(0, []string{"o", "l"}, code(mem(0))), save(1, name("o"))), []int{9, 39, 39, 40}, []int{39, 0}, 6},
		{"an argument that is given anew", stms(set("o", number(4)), invoke(0, []string{"o", "l"}, code(name("o"), name("o"), op(impl.OpMul)))), []int{1, 2, 46, 40}, []int{46, 0}, 5},
		{"in the first branch", branches("i", stms(invoke(0, []string{"o", "p"}, x)), stms(invoke(1, []string{"o", "p"}, x))), []int{1, 2, 35, 40}, []int{35, 1}, 5},
		{"in the second branch", branches("c", stms(invoke(0, []string{"o", "p"}, x)), stms(invoke(1, []string{"o", "p"}, x))), []int{1, 2, 30, 45}, []int{45, 1}, 5},
		{"in a branch that isn't taken", branches("c", stms(invoke(0, []string{"o", "p"}, x)), nil), []int{1, 2, 30, 40}, []int{0, 0}, 1},
	} {
		wantStep(t, owning(c.body...), 1, state, []int{5, 0}, c.after, c.outs, c.cost)
		if !slices.Equal(state, []int{1, 2, 30, 40}) {
			t.Fatal(c.what, "the state that was handed in was written into")
		}
	}
}

func TestStepArgumentsInOrder(t *testing.T) {
	// All arguments are there before any output is given, and go to the inputs in order.
	swap := impl.Class{Name: "swap", Ins: numbered("a", 3), Outs: numbered("b", 3),
		Body: stms(set("b0", name("a2")), set("b1", name("a0")), set("b2", name("a1")))}
	user := impl.Class{Name: "user", Ins: numbered("i", 3), Outs: numbered("o", 3), Insts: []int{0}}
	args := []itemList{code(name("i0")), code(name("i1")), code(name("i2"))}
	again := []itemList{code(name("o0")), code(name("o1")), code(name("o2"))}
	outs := slotNames(user.Outs)
	user.Body = stms(invoke(0, outs, args...))
	wantStep(t, machine(swap, user), 1, nil, []int{1, 2, 3}, nil, []int{3, 1, 2}, 4)
	user.Body = stms(invoke(0, outs, args...), invoke(0, outs, again...))
	wantStep(t, machine(swap, user), 1, nil, []int{1, 2, 3}, nil, []int{2, 3, 1}, 8)
}

func TestStepInstancesOfInstances(t *testing.T) {
	// Each has cells of its own, before those of its instances.
	count := impl.Class{Name: "count", Outs: []impl.Slot{slot("o")}, Mems: []int{0}, Body: stms(
		set("o", mem(0), number(1), op(impl.OpAdd)), save(0, name("o")))}
	pair := impl.Class{Name: "pair", Outs: numbered("o", 2), Mems: []int{100}, Insts: []int{0, 0}, Body: stms(
		invoke(0, []string{"o0"}), invoke(1, []string{"o1"}), invoke(1, []string{"o1"}), save(0, mem(0), name("o1"), op(impl.OpAdd)))}
	four := impl.Class{Name: "four", Outs: numbered("o", 4), Insts: []int{1, 0, 1}, Body: stms(
		invoke(2, []string{"o2", "o3"}), invoke(0, []string{"o0", "o1"}), invoke(2, []string{"o2", "o3"}))}
	m := machine(count, pair, four)
	state := impl.Reset(m, 2)
	wantStep(t, m, 2, state, nil, []int{102, 1, 2, 0, 106, 2, 4}, []int{1, 2, 2, 4}, 3+3*(3+1+6))
	state, _, _ = impl.Step(m, 2, state, nil)
	wantStep(t, m, 2, state, nil, []int{106, 2, 4, 0, 120, 4, 8}, []int{2, 4, 4, 8}, 33)
}

func TestStepCosts(t *testing.T) {
	// Only what is carried out counts; both branches may be cheaper than Bound.
	body := branches("c", stms(set("o", number(1)), set("p", number(1))), branches("i", nil, stms(save(0, number(1)))))
	m := owning(append(body, invoke(0, []string{"l", "$1"}, code(number(0))))...)
	state := []int{0, 0, 0, 0}
	for _, c := range []struct{ i, c, cost int }{{0, 1, 1 + 2 + 4}, {1, 1, 1 + 2 + 4}, {1, 0, 1 + 1 + 4}, {0, 0, 1 + 1 + 1 + 4}} {
		_, _, cost := impl.Step(m, 1, state, []int{c.i, c.c})
		if cost != c.cost {
			t.Errorf("i %d, c %d: cost %d, asked for %d", c.i, c.c, cost, c.cost)
		}
	}
	wantStep(t, owning(), 1, state, []int{1, 1}, state, []int{0, 0}, 0)
}

func TestStepAtTheLimits(t *testing.T) {
	most := machine(setting("a", 9), repeating("b", 0, 9, 9), repeating("c", 1, 9, 99), repeating("d", 2, 399, 1000))
	wantStep(t, most, 3, nil, nil, nil, []int{1}, impl.MaxCost)
	cells := machine(keeping("a", 1000, 0, 0), keeping("b", 0, 0, 20))
	first := &cells.Classes[0]
	first.Body = stms(save(999, mem(999), number(1), op(impl.OpAdd)))
	for i := range 20 {
		cells.Classes[1].Body = append(cells.Classes[1].Body, invoke(i, []string{"o"}))
	}
	after := make([]int, impl.MaxCells)
	for i := 999; i < len(after); i += 1000 {
		after[i] = 1
	}
	wantStep(t, cells, 1, make([]int, impl.MaxCells), nil, after, []int{0}, 40)
	// A chain of all classes, with as many variables each as there may be.
	var chain []impl.Class
	for i := range impl.MaxClasses {
		c := setting("k"+string(rune('a'+i/26))+string(rune('a'+i%26)), 1)
		c.Ins, c.Locs = numbered("i", 2), slotNames(numbered("l", impl.MaxSlots-3))
		c.Body = stms(set("o", name("i0"), name("l7"), op(impl.OpAdd), name("i1"), op(impl.OpSub)), set("l7", number(1000)))
		if i > 0 {
			c.Insts = []int{i - 1}
			c.Body = append(c.Body, invoke(0, []string{"o"}, code(name("o")), code(number(1))), set("o", name("o"), name("l7"), op(impl.OpAdd)))
		}
		chain = append(chain, c)
	}
	wantStep(t, machine(chain...), impl.MaxClasses-1, nil, []int{5, 1}, nil, []int{5 - impl.MaxClasses + 1000*(impl.MaxClasses-1)}, 4*impl.MaxClasses-2)
}

func TestStepOfWrongArguments(t *testing.T) {
	m := owning(set("o", name("i")), save(0, name("i")))
	state, ins := []int{1, 2, 3, 4}, []int{5, 6}
	wantStep(t, m, 1, state, ins, []int{5, 2, 3, 4}, []int{5, 0}, 2)
	refused := func(what any, m impl.Machine, class int, state, ins []int) {
		t.Helper()
		after, outs, cost := impl.Step(m, class, state, ins)
		if len(after) != 0 || len(outs) != 0 || cost != -1 {
			t.Errorf("%v: %v, %v, cost %d", what, after, outs, cost)
		}
	}
	refused("no machine", impl.Machine{}, 0, nil, nil)
	refused("a machine that isn't OK", owning(set("i", number(1))), 1, state, ins)
	refused("a machine whose other class isn't OK", owning(set("i", number(1))), 0, []int{7}, []int{1})
	for _, class := range []int{math.MinInt, -1, 2, 3, math.MaxInt} {
		refused(class, m, class, state, ins)
	}
	refused("another class", m, 0, state, ins)
	for size := range 7 {
		if size != 4 {
			refused([]any{"state of", size}, m, 1, make([]int, size), ins)
		}
		if size != 2 {
			refused([]any{"inputs", size}, m, 1, state, make([]int, size))
		}
	}
	for _, v := range []int{math.MaxInt32 + 1, math.MinInt32 - 1, math.MaxInt, math.MinInt, 1 << 32} {
		for i := range state {
			bad := slices.Clone(state)
			bad[i] = v
			refused([]any{"state", i, v}, m, 1, bad, ins)
		}
		for i := range ins {
			bad := slices.Clone(ins)
			bad[i] = v
			refused([]any{"input", i, v}, m, 1, state, bad)
		}
	}
	for _, v := range []int{math.MaxInt32, math.MinInt32} {
		wantStep(t, m, 1, []int{1, 2, 3, v}, []int{v, v}, []int{v, 2, 3, v}, []int{v, 0}, 2)
	}
}
