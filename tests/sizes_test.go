package tests

import (
	"math"
	"slices"
	"testing"

	"loop.example/s0043/impl"
)

// Cells, Bound and Reset.

func wantSizes(t *testing.T, what any, m impl.Machine, class, bound int, reset ...int) {
	t.Helper()
	if got := impl.Bound(m, class); got != bound {
		t.Errorf("%v: Bound of class %d is %d, asked for %d", what, class, got, bound)
	}
	if got := impl.Cells(m, class); got != len(reset) {
		t.Errorf("%v: Cells of class %d is %d, asked for %d", what, class, got, len(reset))
	}
	if got := impl.Reset(m, class); !slices.Equal(got, reset) {
		t.Errorf("%v: Reset of class %d is %v, asked for %v", what, class, got, reset)
	}
}

func TestSizesAtRandom(t *testing.T) {
	for seed := range int64(3000) {
		m := newMaker(seed).machine()
		for k := range m.Classes {
			wantSizes(t, seed, m, k, boundOf(m, k), firstState(m, k)...)
		}
	}
}

func wantNoSizes(t *testing.T, what any, m impl.Machine, class int) {
	t.Helper()
	if impl.Cells(m, class) != -1 || impl.Bound(m, class) != -1 || len(impl.Reset(m, class)) != 0 {
		t.Errorf("%v: class %d gives %d, %d, %v", what, class, impl.Cells(m, class), impl.Bound(m, class), impl.Reset(m, class))
	}
}

func TestSizesOfNoClass(t *testing.T) {
	for _, class := range []int{math.MinInt, -2, -1, 2, 3, 200, math.MaxInt} {
		wantNoSizes(t, "no such class", owning(), class)
	}
	for _, class := range []int{-1, 0, 1} {
		wantNoSizes(t, "no machine", impl.Machine{}, class)
		// What is wrong may stand in another class, before or behind.
		wantNoSizes(t, "the last class is wrong", owning(save(2, number(1))), class)
		bad := leaf()
		bad.Outs = nil
		wantNoSizes(t, "the first class is wrong", machine(bad, setting("k", 1)), class)
	}
}

func TestBoundOfBranches(t *testing.T) {
	one := set("o", number(1))
	many := func(n int) stmList { return slices.Repeat(stms(one), n) }
	leafCall := stms(invoke(0, []string{"o", "p"}, code(number(1)))) // 1 + 3
	cases := []struct {
		what  string
		body  stmList
		bound int
	}{
		{"nothing", nil, 0},
		{"a Set", many(1), 1},
		{"a Save", stms(save(0, number(1))), 1},
		{"a Call", leafCall, 4},
		{"three kinds", slices.Concat(many(2), stms(save(1, number(1))), leafCall), 7},
		{"an empty If", branches("c", nil, nil), 1},
		{"the first branch is greater", branches("c", many(3), many(2)), 4},
		{"the second branch is greater", branches("c", many(2), many(5)), 6},
		{"two alike", branches("c", many(2), many(2)), 3},
		{"a call in a branch", branches("c", leafCall, many(3)), 5},
		{"a call in the other", branches("c", many(5), leafCall), 6},
		{"behind each other", slices.Concat(branches("c", many(1), nil), branches("c", nil, many(4)), many(1)), 8},
		{"nested, the first", branches("c", slices.Concat(branches("i", many(1), many(4)), many(1)), many(6)), 7},
		{"nested, the second", branches("c", slices.Concat(branches("i", many(1), many(4)), many(1)), many(8)), 9},
		{"nested in the second", branches("c", many(2), branches("i", branches("l", many(1), many(2)), many(1))), 5},
		{"three deep", branches("c", branches("i", branches("l", nil, nil), nil), nil), 3},
		{"Else and End cost nothing", slices.Concat(many(1), branches("c", nil, many(1)), many(1)), 4},
	}
	for _, c := range cases {
		wantSizes(t, c.what, owning(c.body...), 1, c.bound, 3, -4, 7, 7)
	}
	wantSizes(t, "the deepest", owning(nested(impl.MaxNest, many(1))...), 1, impl.MaxNest+1, 3, -4, 7, 7)
}

func TestSizesAlongCalls(t *testing.T) {
	// Costs and cells are those of instances of instances, in the order of Insts; cells also where there's no call.
	a := setting("a", 2)
	a.Mems = []int{1}
	b := setting("b", 1)
	b.Mems, b.Insts = []int{2, 3}, []int{0, 0}
	c := setting("c", 0)
	c.Insts, c.Body = []int{0, 1, 0}, stms(invoke(1, []string{"o"}), invoke(0, []string{"o"}), invoke(1, []string{"o"}))
	d := setting("d", 0)
	d.Mems, d.Insts, d.Body = []int{math.MinInt32, math.MaxInt32}, []int{2, 1, 2}, stms(invoke(2, []string{"o"}))
	m := machine(a, b, c, d)
	wantSizes(t, "a", m, 0, 2, 1)
	wantSizes(t, "b", m, 1, 1, 2, 3, 1, 1)
	wantSizes(t, "c", m, 2, 2+3+2, 1, 2, 3, 1, 1, 1)
	wantSizes(t, "d", m, 3, 8, math.MinInt32, math.MaxInt32, 1, 2, 3, 1, 1, 1, 2, 3, 1, 1, 1, 2, 3, 1, 1, 1)
}

func TestSizesOfEmptyStates(t *testing.T) {
	// Far more instances than could be gone through one by one, and none has a cell.
	classes := doubling(setting("k0", 0), impl.MaxClasses)
	for i := 1; i < len(classes); i++ {
		classes[i].Insts = slices.Repeat([]int{i - 1}, impl.MaxSlots)
		classes[i].Body = stms(set("o", number(1)))
	}
	m := machine(classes...)
	wantSizes(t, "none", m, impl.MaxClasses-1, 1)
	wantStep(t, m, impl.MaxClasses-1, nil, nil, nil, []int{1}, 1)
}
