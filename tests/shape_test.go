package tests

import (
	"math"
	"slices"
	"strings"
	"testing"

	"loop.example/s0043/impl"
)

// ShapeOK, and Print where it doesn't hold.

func wantShape(t *testing.T, what any, p impl.Program, ok bool) {
	t.Helper()
	if impl.ShapeOK(p) != ok {
		t.Errorf("%v: ShapeOK gives %v", what, !ok)
	}
	if (impl.Print(p) != "") != ok {
		t.Errorf("%v: Print gives %q", what, short(impl.Print(p)))
	}
}

// everywhere puts an expression into a Code, and into an Args behind another.
func everywhere(items itemList) []impl.Program {
	return []impl.Program{one(plain("z", items...)), one(plain("z", number(1)), call([]string{"z"}, "g", code(number(1)), items))}
}

func TestShapePostfix(t *testing.T) {
	good := []itemList{
		code(number(0)),
		code(name("x"), name("y"), name("z"), op(impl.OpIf)),
		code(name("x"), name("y"), name("z"), op(impl.OpAdd), op(impl.OpAdd)),
		code(name("x"), name("y"), op(impl.OpAdd), name("z"), op(impl.OpAdd)),
		code(name("x"), fby(1), fbyB(1), op(impl.OpNeg), op(impl.OpNot), when("c")),
		code(name("x"), name("y"), merge("c")),
	}
	bad := []itemList{
		nil,
		code(number(1), number(2)),
		code(op(impl.OpNeg)),
		code(op(impl.OpNeg), number(1)),
		code(number(1), op(impl.OpAdd)),
		code(number(1), op(impl.OpAdd), number(2)),
		code(number(1), op(impl.OpNeg), op(impl.OpAdd), number(2), number(3)),
		code(number(1), number(2), op(impl.OpIf)),
		code(number(1), number(2), number(3), number(4), op(impl.OpIf)),
		code(number(1), merge("c")),
		code(fby(1)),
		code(fbyB(1), number(1)),
		code(when("c"), number(1)),
		code(number(1), number(2), op(impl.OpAdd), op(impl.OpAdd), number(3)),
	}
	for i, items := range good {
		for _, p := range everywhere(items) {
			wantShape(t, i, p, true)
		}
	}
	for i, items := range bad {
		for _, p := range everywhere(items) {
			wantShape(t, i, p, false)
		}
	}
}

// applied puts an item behind as many operands as it takes.
func applied(item impl.Item) itemList {
	count := 0
	if 0 <= item.Op && item.Op <= impl.OpMerge {
		count = arity(item.Op)
	}
	return append(slices.Repeat(code(number(1)), count), item)
}

// Val and Name of every Op, by the table of 1.1.
func TestShapeItems(t *testing.T) {
	vals := []int{0, 1, 2, -1, impl.MaxInt, impl.MaxInt + 1, -impl.MaxInt, -impl.MaxInt - 1, math.MaxInt, math.MinInt}
	names := []string{"", "x", "$1", "if"}
	for o := -2; o <= impl.OpMem+3; o++ {
		for _, val := range vals {
			for _, s := range names {
				item := impl.Item{Op: o, Val: val, Name: s}
				ok := impl.OpInt <= o && o <= impl.OpMerge
				switch o {
				case impl.OpInt:
					ok = ok && 0 <= val && val <= impl.MaxInt
				case impl.OpFby:
					ok = ok && -impl.MaxInt <= val && val <= impl.MaxInt
				case impl.OpBool, impl.OpFbyB, impl.OpWhen:
					ok = ok && (val == 0 || val == 1)
				default:
					ok = ok && val == 0
				}
				if o == impl.OpVar || o == impl.OpWhen || o == impl.OpMerge {
					ok = ok && (s == "x" || s == "$1")
				} else {
					ok = ok && s == ""
				}
				for _, p := range everywhere(applied(item)) {
					wantShape(t, item, p, ok)
				}
			}
		}
	}
	for _, o := range []int{math.MinInt, -1000, 1000, math.MaxInt} {
		wantShape(t, o, one(plain("z", op(o))), false)
		wantShape(t, o, one(plain("z", number(1), number(2), op(o))), false)
	}
}

// named gives programs with a name at every place where one stands.
func named(s string) []impl.Program {
	list := []impl.Program{
		one(plain(s, number(1))),
		one(plain("z", name(s))),
		one(plain("z", number(1), when(s))),
		one(plain("z", number(1), number(2), merge(s))),
		one(call([]string{"z"}, s)),
		one(call([]string{"z", s}, "g")),
		one(call([]string{s}, "g")),
		one(call([]string{"z"}, "g", code(number(1)), code(name(s)))),
	}
	for range 5 {
		list = append(list, one(plain("z", number(1))))
	}
	n := len(list)
	list[n-1].Nodes[0].Name = s
	list[n-2].Nodes[0].Ins = []impl.Var{intVar("a"), intVar(s)}
	list[n-3].Nodes[0].Outs = []impl.Var{boolVar(s)}
	list[n-4].Nodes[0].Vars = []impl.Var{intVar(s)}
	list[n-5].Nodes[0].Vars = []impl.Var{intVar("v", on("c"), off(s))}
	return list
}

var (
	goodNames = []string{
		"x", "X", "a0", "a_", "Z_9_z", "nodes", "IF", "whenot_", strings.Repeat("a", impl.MaxName), "z" + strings.Repeat("_", impl.MaxName-1),
		"$1", "$9", "$10", "$100000000", "$999999999",
	}
	badNames = append([]string{
		"_", "_x", "0", "1x", "x-y", "x y", " x", "x ", "x\n", "\x00", "x\x00", "\xc3\xa9", "x\xff", "x.y", "x$1", "x$",
		strings.Repeat("a", impl.MaxName+1), strings.Repeat("a", 100000),
		"$", "$0", "$01", "$1x", "$x", "$-1", "$+1", "$1_0", "$$1", "$ 1", "$1 ", "$1000000000", "$9999999999", "$" + strings.Repeat("1", 40),
	}, keywords...)
)

func TestShapeNames(t *testing.T) {
	for _, s := range goodNames {
		for i, p := range named(s) {
			wantShape(t, []any{i, s}, p, true)
		}
	}
	for _, s := range badNames {
		for i, p := range named(s) {
			wantShape(t, []any{i, short(s)}, p, false)
		}
	}
	// An empty Call makes an expression equation, which has no Code here.
	for i, p := range named("") {
		wantShape(t, []any{i, "the empty name"}, p, false)
	}
}

func TestShapeTypesAndClocks(t *testing.T) {
	places := []func(n *impl.Node, v impl.Var){
		func(n *impl.Node, v impl.Var) { n.Ins = []impl.Var{intVar("i"), v} },
		func(n *impl.Node, v impl.Var) { n.Outs = []impl.Var{intVar("o"), v} },
		func(n *impl.Node, v impl.Var) { n.Vars = []impl.Var{intVar("w"), v} },
	}
	for i, put := range places {
		for _, kind := range []int{math.MinInt, -1, 0, 1, 2, 3, math.MaxInt} {
			p := one(plain("z", number(1)))
			put(&p.Nodes[0], impl.Var{Name: "v", Type: kind})
			wantShape(t, []any{"type", i, kind}, p, kind == impl.TypeInt || kind == impl.TypeBool)
		}
		for size := range impl.MaxClock + 3 {
			p := one(plain("z", number(1)))
			put(&p.Nodes[0], intVar("v", slices.Repeat([]impl.Cond{on("c")}, size)...))
			wantShape(t, []any{"clock", i, size}, p, size == 0 || i == 2 && size <= impl.MaxClock)
		}
	}
}

func TestShapeEquations(t *testing.T) {
	many := func(n int) []string { return slices.Repeat([]string{"z"}, n) }
	cases := []struct {
		what string
		e    impl.Equation
		ok   bool
	}{
		{"nothing", impl.Equation{}, false},
		{"no Lhs", impl.Equation{Code: code(number(1))}, false},
		{"two names without a call", impl.Equation{Lhs: many(2), Code: code(number(1))}, false},
		{"Args without a call", impl.Equation{Lhs: many(1), Code: code(number(1)), Args: []itemList{code(number(1))}}, false},
		{"Args and no Code", impl.Equation{Lhs: many(1), Args: []itemList{code(number(1))}}, false},
		{"an empty Arg without a call", impl.Equation{Lhs: many(1), Code: code(number(1)), Args: []itemList{nil}}, false},
		{"empty lists", impl.Equation{Lhs: many(1), Code: code(number(1)), Args: []itemList{}}, true},
		{"a call of nothing", impl.Equation{Lhs: many(1), Call: "g", Code: itemList{}, Args: []itemList{}}, true},
		{"a call without Lhs", impl.Equation{Call: "g"}, false},
		{"a call with Code", impl.Equation{Lhs: many(1), Call: "g", Code: code(number(1))}, false},
		{"a call with an empty Arg", impl.Equation{Lhs: many(1), Call: "g", Args: []itemList{code(number(1)), nil}}, false},
		{"Lhs at the bound", call(many(impl.MaxVars), "g"), true},
		{"Lhs above the bound", call(many(impl.MaxVars+1), "g"), false},
		{"Args at the bound", call(many(1), "g", slices.Repeat([]itemList{code(number(1))}, impl.MaxVars)...), true},
		{"Args above the bound", call(many(1), "g", slices.Repeat([]itemList{code(number(1))}, impl.MaxVars+1)...), false},
	}
	for _, c := range cases {
		wantShape(t, c.what, one(c.e), c.ok)
		wantShape(t, c.what, one(plain("z", number(1)), c.e, plain("z", number(1))), c.ok)
	}
}

func TestShapeBounds(t *testing.T) {
	node := one(plain("z", number(1))).Nodes[0]
	for n, ok := range map[int]bool{0: false, 1: true, impl.MaxNodes: true, impl.MaxNodes + 1: false} {
		wantShape(t, n, impl.Program{Nodes: slices.Repeat([]impl.Node{node}, n)}, ok)
	}
	for n, ok := range map[int]bool{0: false, 1: true, impl.MaxEqs: true, impl.MaxEqs + 1: false} {
		wantShape(t, n, one(slices.Repeat([]impl.Equation{plain("z", number(1))}, n)...), ok)
	}
	vars := func(n int) []impl.Var { return slices.Repeat([]impl.Var{intVar("v")}, n) }
	for _, c := range []struct {
		ins, outs, locals int
		ok                bool
	}{
		{0, 0, 0, false}, {1, 0, 1, false}, {0, 1, 0, true},
		{impl.MaxVars - 1, 1, 0, true}, {impl.MaxVars, 1, 0, false},
		{0, impl.MaxVars, 0, true}, {0, impl.MaxVars + 1, 0, false},
		{0, 1, impl.MaxVars - 1, true}, {0, 1, impl.MaxVars, false},
		{166, 167, 167, true}, {167, 167, 167, false},
	} {
		p := one(plain("z", number(1)))
		p.Nodes[0].Ins, p.Nodes[0].Outs, p.Nodes[0].Vars = vars(c.ins), vars(c.outs), vars(c.locals)
		wantShape(t, c, p, c.ok)
	}
	for _, size := range []int{impl.MaxItems, impl.MaxItems + 1} {
		items := append(code(number(1)), slices.Repeat(code(op(impl.OpNeg)), size-1)...)
		for _, p := range everywhere(items) {
			wantShape(t, size, p, size == impl.MaxItems)
		}
	}
	// A fault of the last node counts as one of the first.
	bad := node
	bad.Name = "1"
	wantShape(t, "the last node", impl.Program{Nodes: []impl.Node{node, node, bad}}, false)
	wantShape(t, "the first node", impl.Program{Nodes: []impl.Node{bad, node, node}}, false)
}
