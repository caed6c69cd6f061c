package tests

import (
	"math"
	"slices"
	"testing"

	"loop.example/s0043/impl"
)

// Promise 10: Fuse.

// wantFused asks for what the promise says in so many words, but for the steps.
func wantFused(t *testing.T, what any, m impl.Machine) {
	t.Helper()
	f := impl.Fuse(m)
	if !impl.MachineOK(f) || len(f.Classes) != len(m.Classes) {
		t.Fatalf("%v: %d classes, not OK:\n%s", what, len(f.Classes), short(impl.PrintMachine(m)))
	}
	if !sameMachine(impl.Fuse(f), f) {
		t.Errorf("%v: done again it changes\n%s", what, short(impl.PrintMachine(f)))
	}
	for k, c := range f.Classes {
		if len(neighbours(c.Body)) > 0 {
			t.Errorf("%v: neighbours are left in\n%s", what, short(impl.PrintMachine(f)))
		}
		if impl.Cells(f, k) != impl.Cells(m, k) || !slices.Equal(impl.Reset(f, k), impl.Reset(m, k)) || impl.Bound(f, k) > impl.Bound(m, k) {
			t.Errorf("%v: class %d has %d cells, %v, bound %d; asked for %d, %v, at most %d", what, k,
				impl.Cells(f, k), impl.Reset(f, k), impl.Bound(f, k), impl.Cells(m, k), impl.Reset(m, k), impl.Bound(m, k))
		}
		// All but the body is as it was.
		c.Body = m.Classes[k].Body
		if !sameMachine(machine(c), machine(m.Classes[k])) {
			t.Errorf("%v: class %d is another", what, k)
		}
	}
}

func wantSameSteps(t *testing.T, what any, m, f impl.Machine, class int, state, ins []int) {
	t.Helper()
	after, outs, cost := impl.Step(m, class, state, ins)
	gotAfter, gotOuts, gotCost := impl.Step(f, class, state, ins)
	if !slices.Equal(gotAfter, after) || !slices.Equal(gotOuts, outs) || gotCost < 0 || gotCost > cost {
		t.Errorf("%v: class %d, state %v, inputs %v: %v, %v, cost %d; asked for %v, %v, cost %d of\n%s", what, class, state, ins,
			gotAfter, gotOuts, gotCost, after, outs, cost, short(impl.PrintMachine(m)))
	}
}

// wantFusedSteps asks for all of the promise, on random states and inputs, and for what the second reading gives.
func (m maker) wantFusedSteps(t *testing.T, what any, machine impl.Machine) {
	t.Helper()
	wantFused(t, what, machine)
	f := impl.Fuse(machine)
	if again := m.fusedAgain(machine); !sameMachine(f, again) {
		t.Fatalf("%v:\n%s\nasked for\n%s", what, short(impl.PrintMachine(f)), short(impl.PrintMachine(again)))
	}
	for k := range machine.Classes {
		for range 4 {
			state, ins := m.valuesFor(machine, k)
			wantSameSteps(t, what, machine, f, k, state, ins)
			// Some inputs that choose the second branches.
			for i := range ins {
				ins[i] = min(ins[i], m.Intn(2))
			}
			wantSameSteps(t, what, machine, f, k, state, ins)
		}
	}
}

// runs gives a list with rows of Ifs on one variable, that hold such lists.
func (k *machinist) runs(depth int) stmList {
	if depth == 0 {
		return k.list(0)
	}
	var list stmList
	for range 1 + k.Intn(3) {
		if k.Intn(4) == 0 {
			list = append(list, k.statement(0)...)
		}
		names := variables(k.class)
		on := pick(k.maker, names[:min(3, len(names))])
		k.held = append(k.held, on)
		for range 1 + k.Intn(3) {
			list = append(list, branches(on, k.runs(k.Intn(depth)), k.runs(k.Intn(depth)))...)
		}
		k.held = k.held[:len(k.held)-1]
	}
	return list
}

func (m maker) runningMachine() impl.Machine {
	k := &machinist{maker: m}
	for _, s := range m.distinct(1 + m.Intn(3)) {
		k.class = k.makeClass(s)
		k.class.Body = k.runs(1 + m.Intn(5)/2)
		k.classes = append(k.classes, k.class)
	}
	return machine(k.classes...)
}

func TestFuseAtRandom(t *testing.T) {
	joined := 0
	for seed := range int64(700) {
		m := newMaker(seed)
		m.wantFusedSteps(t, seed, m.machine())
		running := m.runningMachine()
		m.wantFusedSteps(t, seed, running)
		for k, c := range impl.Fuse(running).Classes {
			joined += len(running.Classes[k].Body) - len(c.Body)
		}
	}
	if joined < 3*5000 {
		t.Error("too few neighbours", joined/3)
	}
}

func TestFuseAlteredMachines(t *testing.T) {
	wrong := 0
	for seed := range int64(1000) {
		m := newMaker(seed)
		altered := m.altered(m.runningMachine(), 1+m.Intn(2))
		if fits(altered) {
			m.wantFusedSteps(t, seed, altered)
			continue
		}
		wrong++
		if f := impl.Fuse(altered); len(f.Classes) != 0 {
			t.Errorf("seed %d: a machine that isn't OK gives\n%s", seed, impl.PrintMachine(f))
		}
	}
	if wrong < 500 {
		t.Error("too few machines", wrong)
	}
}

// What comes out of the translation, on the rows of a run.
func TestFuseTranslated(t *testing.T) {
	joined := 0
	for seed := range int64(2000) {
		m := newMaker(seed)
		p := passing(seed)
		translated := impl.Translate(p)
		m.wantFusedSteps(t, seed, translated)
		f := impl.Fuse(translated)
		for k, n := range p.Nodes {
			rows := m.rowsFor(n, 8)
			wantPlay(t, seed, p, f, k, rows)
			state, fusedState := impl.Reset(translated, k), impl.Reset(f, k)
			for _, row := range rows {
				wantSameSteps(t, seed, translated, f, k, state, row)
				state, _, _ = impl.Step(translated, k, state, row)
				fusedState, _, _ = impl.Step(f, k, fusedState, row)
				if !slices.Equal(state, fusedState) {
					t.Fatalf("seed %d: states %v and %v", seed, state, fusedState)
				}
			}
			joined += len(translated.Classes[k].Body) - len(f.Classes[k].Body)
		}
	}
	if joined < 3*500 {
		t.Error("too few neighbours", joined/3)
	}
	for seed := range int64(5) {
		p := passing(seed)
		last := len(p.Nodes) - 1
		wantPlay(t, seed, p, impl.Fuse(impl.Translate(p)), last, newMaker(seed).rowsFor(p.Nodes[last], impl.MaxRows))
	}
}

type fuseCase struct {
	what       string
	body, want stmList
}

func wantFusedBodies(t *testing.T, cases []fuseCase) {
	t.Helper()
	for _, c := range cases {
		m := owning(c.body...)
		if got, want := impl.Fuse(m), owning(c.want...); !sameMachine(got, want) {
			t.Errorf("%s:\n%s\nasked for\n%s", c.what, impl.PrintMachine(got), impl.PrintMachine(want))
		}
		newMaker(1).wantFusedSteps(t, c.what, m)
	}
}

// to gives a Set that tells itself from the others, of a variable that no If is on.
func to(v int) stmList {
	return stms(set("o", name("o"), number(10), op(impl.OpMul), number(v), op(impl.OpAdd)))
}

func TestFuseBodies(t *testing.T) {
	join := func(lists ...stmList) stmList { return slices.Concat(lists...) }
	called := stms(invoke(1, []string{"o", "l"}, code(name("i"))))
	kept := stms(save(0, mem(1), number(1), op(impl.OpAdd)))
	wantFusedBodies(t, []fuseCase{
		{"nothing", nil, nil},
		{"no Ifs", join(to(1), kept, called), join(to(1), kept, called)},
		{"one If", branches("c", to(1), to(2)), branches("c", to(1), to(2))},
		{"two", join(branches("c", to(1), to(2)), branches("c", to(3), to(4))), branches("c", join(to(1), to(3)), join(to(2), to(4)))},
		{"three", join(branches("c", to(1), to(2)), branches("c", to(3), to(4)), branches("c", to(5), to(6))),
			branches("c", join(to(1), to(3), to(5)), join(to(2), to(4), to(6)))},
		{"five, with empty branches", join(branches("c", to(1), nil), branches("c", nil, to(2)), branches("c", nil, nil), branches("c", to(3), nil), branches("c", nil, to(4))),
			branches("c", join(to(1), to(3)), join(to(2), to(4)))},
		{"all empty", join(branches("c", nil, nil), branches("c", nil, nil)), branches("c", nil, nil)},
		{"an empty one alone stays", branches("c", nil, nil), branches("c", nil, nil)},
		{"statements around", join(to(1), branches("c", to(2), nil), branches("c", nil, to(3)), kept), join(to(1), branches("c", to(2), to(3)), kept)},
		{"a Set between", join(branches("c", to(1), nil), to(2), branches("c", to(3), nil)), join(branches("c", to(1), nil), to(2), branches("c", to(3), nil))},
		{"a Save between", join(branches("c", to(1), nil), kept, branches("c", to(3), nil)), join(branches("c", to(1), nil), kept, branches("c", to(3), nil))},
		{"a Call between", join(branches("c", to(1), nil), called, branches("c", to(3), nil)), join(branches("c", to(1), nil), called, branches("c", to(3), nil))},
		{"an If between", join(branches("c", to(1), nil), branches("i", nil, nil), branches("c", to(3), nil)), join(branches("c", to(1), nil), branches("i", nil, nil), branches("c", to(3), nil))},
		{"different variables", join(branches("c", to(1), nil), branches("i", to(2), nil)), join(branches("c", to(1), nil), branches("i", to(2), nil))},
		{"turn by turn", join(branches("c", to(1), nil), branches("i", to(2), nil), branches("c", nil, to(3)), branches("i", nil, to(4))),
			join(branches("c", to(1), nil), branches("i", to(2), nil), branches("c", nil, to(3)), branches("i", nil, to(4)))},
		{"two rows", join(branches("c", to(1), nil), branches("c", to(2), nil), branches("i", to(3), nil), branches("i", to(4), nil), branches("c", to(5), nil)),
			join(branches("c", join(to(1), to(2)), nil), branches("i", join(to(3), to(4)), nil), branches("c", to(5), nil))},
		{"on an output and a local variable", join(branches("p", to(1), nil), branches("p", to(2), nil), branches("$1", nil, to(3)), branches("$1", to(4), nil)),
			join(branches("p", join(to(1), to(2)), nil), branches("$1", to(4), to(3)))},
		{"all kinds of statements", join(branches("c", join(kept, called), to(1)), branches("c", called, kept)), branches("c", join(kept, called, called), join(to(1), kept))},
		// The variable is given a new value between them.
		{"another value between", join(branches("p", to(1), to(2)), stms(set("p", number(1))), branches("p", to(3), to(4))),
			join(branches("p", to(1), to(2)), stms(set("p", number(1))), branches("p", to(3), to(4)))},
		{"another value within an If between", join(branches("p", to(1), to(2)), branches("c", stms(set("p", number(1))), nil), branches("p", to(3), to(4))),
			join(branches("p", to(1), to(2)), branches("c", stms(set("p", number(1))), nil), branches("p", to(3), to(4)))},
	})
}

func TestFuseBranches(t *testing.T) {
	join := func(lists ...stmList) stmList { return slices.Concat(lists...) }
	pair := join(branches("i", to(1), nil), branches("i", to(2), to(3)))
	paired := branches("i", join(to(1), to(2)), to(3))
	wantFusedBodies(t, []fuseCase{
		{"in the first branch", branches("c", pair, to(4)), branches("c", paired, to(4))},
		{"in the second branch", branches("c", to(4), pair), branches("c", to(4), paired)},
		{"in both, and not across the Else", branches("c", pair, pair), branches("c", paired, paired)},
		{"not across the Else", branches("c", branches("i", to(1), nil), branches("i", to(2), nil)), branches("c", branches("i", to(1), nil), branches("i", to(2), nil))},
		{"not across the End", join(branches("c", to(1), branches("i", to(2), nil)), branches("i", to(3), nil)), join(branches("c", to(1), branches("i", to(2), nil)), branches("i", to(3), nil))},
		{"not across the If", join(branches("i", to(1), nil), branches("c", branches("i", to(2), nil), nil)), join(branches("i", to(1), nil), branches("c", branches("i", to(2), nil), nil))},
		{"not with its own branch", branches("c", branches("c", to(1), to(2)), branches("c", to(3), to(4))), branches("c", branches("c", to(1), to(2)), branches("c", to(3), to(4)))},
		{"three deep", branches("c", nil, branches("l", branches("$1", pair, nil), nil)), branches("c", nil, branches("l", branches("$1", paired, nil), nil))},
		// They become neighbours when those around them are joined.
		{"neighbours in the first branch", join(branches("c", branches("i", to(1), to(2)), nil), branches("c", branches("i", to(3), to(4)), nil)),
			branches("c", branches("i", join(to(1), to(3)), join(to(2), to(4))), nil)},
		{"neighbours in the second branch", join(branches("c", nil, branches("i", to(1), to(2))), branches("c", nil, branches("i", to(3), to(4)))),
			branches("c", nil, branches("i", join(to(1), to(3)), join(to(2), to(4))))},
		{"neighbours over an empty branch", join(branches("c", branches("i", to(1), nil), to(5)), branches("c", nil, to(6)), branches("c", branches("i", nil, to(2)), to(7))),
			branches("c", branches("i", to(1), to(2)), join(to(5), to(6), to(7)))},
		{"none, with a statement between", join(branches("c", join(branches("i", to(1), nil), to(2)), nil), branches("c", branches("i", to(3), nil), nil)),
			branches("c", join(branches("i", to(1), nil), to(2), branches("i", to(3), nil)), nil)},
		{"of several the last and the first", join(branches("c", join(branches("l", to(1), nil), branches("i", to(2), nil)), nil), branches("c", join(branches("i", to(3), nil), branches("l", to(4), nil)), nil)),
			branches("c", join(branches("l", to(1), nil), branches("i", join(to(2), to(3)), nil), branches("l", to(4), nil)), nil)},
		{"again, a branch deeper", join(branches("c", branches("i", nil, branches("l", to(1), nil)), nil), branches("c", branches("i", nil, branches("l", nil, to(2))), nil)),
			branches("c", branches("i", nil, branches("l", to(1), to(2))), nil)},
		{"rows within rows", join(branches("c", pair, nil), branches("c", pair, nil), branches("c", pair, pair)),
			branches("c", branches("i", join(to(1), to(2), to(1), to(2), to(1), to(2)), join(to(3), to(3), to(3))), paired)},
		{"the same variable within", join(branches("c", branches("c", to(1), to(2)), nil), branches("c", branches("c", to(3), to(4)), nil)),
			branches("c", branches("c", join(to(1), to(3)), join(to(2), to(4))), nil)},
	})
}

func TestFuseClasses(t *testing.T) {
	one := stms(set("l", number(1)))
	two := slices.Concat(branches("o", one, nil), branches("o", one, nil))
	first, second, third := setting("a", 0), setting("b", 0), setting("d", 0)
	for _, c := range []*impl.Class{&first, &third} {
		c.Locs, c.Mems, c.Body = []string{"l"}, []int{5, -7}, two
	}
	third.Insts = []int{0, 1, 0}
	m := machine(first, second, third)
	wantFused(t, "three classes", m)
	for _, k := range []int{0, 2} {
		if body := impl.Fuse(m).Classes[k].Body; len(body) != 5 {
			t.Error("class", k, "has", body)
		}
	}
	if !slices.Equal(impl.Reset(impl.Fuse(m), 2), []int{5, -7, 5, -7, 5, -7}) {
		t.Error(impl.Reset(impl.Fuse(m), 2))
	}
}

// An If costs one, so a joined one saves one.
func TestFuseCosts(t *testing.T) {
	m := owning(slices.Concat(branches("c", to(1), nil), branches("c", to(2), nil), branches("c", to(3), to(4)))...)
	state := []int{3, -4, 7, 7}
	wantStep(t, m, 1, state, []int{0, 1}, state, []int{123, 0}, 6)
	wantStep(t, impl.Fuse(m), 1, state, []int{0, 1}, state, []int{123, 0}, 4)
	wantStep(t, impl.Fuse(m), 1, state, []int{0, 0}, state, []int{4, 0}, 2)
	wantStep(t, impl.Fuse(m), 1, state, []int{0, math.MinInt32}, state, []int{123, 0}, 4)
	if impl.Bound(m, 1) != 6 || impl.Bound(impl.Fuse(m), 1) != 4 {
		t.Error(impl.Bound(m, 1), impl.Bound(impl.Fuse(m), 1))
	}
}

func TestFuseNothing(t *testing.T) {
	pair := slices.Concat(branches("c", nil, nil), branches("c", nil, nil))
	wrong := map[string]impl.Machine{
		"no classes":          {},
		"an If without End":   owning(append(slices.Clone(pair), ifOn("c"), orElse())...),
		"an If without Else":  owning(append(slices.Clone(pair), ifOn("c"), endIf())...),
		"an Else alone":       owning(append(slices.Clone(pair), orElse())...),
		"an End alone":        owning(append(stms(endIf()), pair...)...),
		"no such variable":    owning(slices.Concat(branches("q", nil, nil), branches("q", nil, nil))...),
		"gives what it is on": owning(slices.Concat(branches("p", stms(set("p", number(1))), nil), branches("p", nil, nil))...),
		"too deep":            owning(nested(impl.MaxNest+1, to(1))...),
		"two classes alike":   machine(leaf(), leaf()),
		"a later class":       machine(leaf(), owner(pair...), setting("leaf", 1)),
		"an unused field":     owning(impl.Stm{Kind: impl.StmIf, Name: "c", At: 1}, orElse(), endIf()),
	}
	for what, m := range wrong {
		if f := impl.Fuse(m); len(f.Classes) != 0 {
			t.Errorf("%s gives\n%s", what, impl.PrintMachine(f))
		}
	}
}

func TestFuseAtTheLimits(t *testing.T) {
	// As many Ifs as may be, side by side.
	many := slices.Repeat(branches("c", nil, nil), impl.MaxStms/3)
	m := owning(many...)
	if got := impl.Fuse(m).Classes[1].Body; !slices.EqualFunc(got, branches("c", nil, nil), sameStm) {
		t.Error(len(got), "statements")
	}
	// As deep as may be, and as many of these.
	deep := nested(impl.MaxNest, to(1))
	count := impl.MaxStms / len(deep)
	m = owning(slices.Repeat(deep, count)...)
	got := impl.Fuse(m)
	if want := nested(impl.MaxNest, slices.Repeat(to(1), count)); !slices.EqualFunc(got.Classes[1].Body, want, sameStm) {
		t.Error(len(got.Classes[1].Body), "statements, asked for", len(want))
	}
	for _, ins := range [][]int{{0, 1}, {1, 1}, {0, 0}} {
		wantSameSteps(t, ins, m, got, 1, []int{1, 2, 3, 4}, ins)
	}
	// None to join, by turns of two variables.
	turns := owning(slices.Repeat(slices.Concat(branches("c", to(1), nil), branches("i", nil, to(2))), impl.MaxStms/8)...)
	if !sameMachine(impl.Fuse(turns), turns) {
		t.Error("turns are changed")
	}
	busy := impl.Translate(busiest())
	fused := impl.Fuse(busy)
	if size := len(fused.Classes[0].Body); size > 1100 {
		t.Error(size, "statements")
	}
	for _, ins := range [][]int{{0}, {1}} {
		wantSameSteps(t, ins, busy, fused, 0, impl.Reset(busy, 0), ins)
	}
	// As many classes as may be, each calling the one before it.
	full := impl.Translate(fullProgram())
	if !sameMachine(impl.Fuse(full), full) {
		t.Error("a machine without Ifs is changed")
	}
}
