package tests

import (
	"slices"

	"loop.example/s0043/impl"
)

// A second reading of 2.1 and 2.2: every fault of a program is listed, in whatever order, each with its place in the
// order of 2.2, and the least is taken.

// Groups of faults within a node, in their order.
const (
	groupNodeName = iota
	groupVarName
	groupDecl
	groupEquation
	groupMissing
	groupCycle
	groupWeight
)

type finding struct {
	node, group, place, code int
}

func (a finding) compare(b finding) int {
	return slices.Compare([]int{a.node, a.group, a.place, a.code}, []int{b.node, b.group, b.place, b.code})
}

// finder looks at one node.
type finder struct {
	program impl.Program
	number  int
	node    impl.Node
	vars    []impl.Var
	found   []finding
}

func firstFault(p impl.Program) (int, int, int) {
	if !impl.ShapeOK(p) {
		return impl.CheckShape, 0, 0
	}
	var found []finding
	for i, n := range p.Nodes {
		f := &finder{p, i, n, slices.Concat(n.Ins, n.Outs, n.Vars), nil}
		f.weights()
		f.cycles()
		f.equations()
		f.declarations()
		found = append(found, f.found...)
	}
	if len(found) == 0 {
		return impl.CheckOK, 0, 0
	}
	first := slices.MinFunc(found, finding.compare)
	return first.code, first.node, first.place
}

func (f *finder) find(bad bool, group, place, code int) {
	if bad {
		f.found = append(f.found, finding{f.number, group, place, code})
	}
}

func (f *finder) variable(s string) (impl.Var, int) {
	i := slices.IndexFunc(f.vars, func(v impl.Var) bool { return v.Name == s })
	if i < 0 {
		return impl.Var{}, -1
	}
	return f.vars[i], i
}

func (f *finder) declarations() {
	for _, n := range f.program.Nodes[:f.number] {
		f.find(n.Name == f.node.Name, groupNodeName, 0, impl.CheckName)
	}
	for k, v := range f.vars {
		_, first := f.variable(v.Name)
		f.find(first < k, groupVarName, k+1, impl.CheckName)
		for i, c := range v.Clock {
			d, _ := f.variable(c.Name)
			f.find(d.Type != impl.TypeBool || !slices.Equal(d.Clock, v.Clock[:i]), groupDecl, k, impl.CheckDecl)
		}
	}
	for _, v := range f.vars[len(f.node.Ins):] {
		stands := slices.ContainsFunc(f.node.Eqs, func(e impl.Equation) bool { return slices.Contains(e.Lhs, v.Name) })
		f.find(!stands, groupMissing, len(f.node.Eqs), impl.CheckDef)
	}
}

func (f *finder) equations() {
	var before []string
	for i, e := range f.node.Eqs {
		for _, s := range e.Lhs {
			_, k := f.variable(s)
			f.find(k < len(f.node.Ins) || slices.Contains(before, s), groupEquation, i, impl.CheckDef)
			before = append(before, s)
		}
		called, calls := f.called(e)
		f.find(e.Call != "" && !calls, groupEquation, i, impl.CheckCall)
		if e.Call == "" || calls {
			f.find(!f.typed(e, called), groupEquation, i, impl.CheckType)
		}
		f.find(!f.timed(e), groupEquation, i, impl.CheckClock)
	}
}

func (f *finder) called(e impl.Equation) (impl.Node, bool) {
	for _, n := range f.program.Nodes[:f.number] {
		if n.Name == e.Call {
			return n, len(n.Ins) == len(e.Args) && len(n.Outs) == len(e.Lhs)
		}
	}
	return impl.Node{}, false
}

func (f *finder) typed(e impl.Equation, called impl.Node) bool {
	if e.Call == "" {
		v, _ := f.variable(e.Lhs[0])
		return v.Type != 0 && f.kind(e.Code) == v.Type
	}
	for i, in := range called.Ins {
		if f.kind(e.Args[i]) != in.Type {
			return false
		}
	}
	for i, out := range called.Outs {
		if v, _ := f.variable(e.Lhs[i]); v.Type != out.Type {
			return false
		}
	}
	return true
}

// rules of types: operands and result of each Op, one letter each, as many rules as there are; i and b are the types.
var rules = map[int][]string{
	impl.OpInt: {"i"}, impl.OpBool: {"b"},
	impl.OpNeg: {"ii"}, impl.OpFby: {"ii"}, impl.OpNot: {"bb"}, impl.OpFbyB: {"bb"},
	impl.OpAdd: {"iii"}, impl.OpSub: {"iii"}, impl.OpMul: {"iii"}, impl.OpDiv: {"iii"}, impl.OpMod: {"iii"},
	impl.OpEq: {"iib", "bbb"}, impl.OpNe: {"iib", "bbb"},
	impl.OpLt: {"iib"}, impl.OpLe: {"iib"}, impl.OpGt: {"iib"}, impl.OpGe: {"iib"},
	impl.OpAnd: {"bbb"}, impl.OpOr: {"bbb"}, impl.OpXor: {"bbb"},
	impl.OpIf: {"biii", "bbbb"}, impl.OpWhen: {"ii", "bb"}, impl.OpMerge: {"iii", "bbb"},
}

func (f *finder) kind(items itemList) int {
	last := items[len(items)-1]
	v, _ := f.variable(last.Name)
	if last.Op == impl.OpVar {
		return v.Type
	}
	if last.Name != "" && v.Type != impl.TypeBool {
		return 0
	}
	letters := ""
	for _, operand := range parts(items, arity(last.Op)) {
		letters += ".ib"[f.kind(operand):][:1]
	}
	for kind, letter := range []string{"", "i", "b"} {
		if slices.Contains(rules[last.Op], letters+letter) {
			return kind
		}
	}
	return 0
}

func (f *finder) timed(e impl.Equation) bool {
	first, _ := f.variable(e.Lhs[0])
	for _, s := range e.Lhs {
		if v, _ := f.variable(s); !slices.Equal(v.Clock, first.Clock) {
			return false
		}
	}
	for _, items := range codes(e) {
		if !f.timely(items, first.Clock) {
			return false
		}
	}
	return true
}

func codes(e impl.Equation) []itemList {
	if e.Call == "" {
		return []itemList{e.Code}
	}
	return e.Args
}

func (f *finder) timely(items itemList, k []impl.Cond) bool {
	last := items[len(items)-1]
	v, number := f.variable(last.Name)
	operands := parts(items, arity(last.Op))
	switch last.Op {
	case impl.OpVar:
		return number >= 0 && slices.Equal(v.Clock, k)
	case impl.OpWhen:
		if len(k) == 0 || number < 0 {
			return false
		}
		outer, c := k[:len(k)-1], k[len(k)-1]
		return c.Name == last.Name && c.On == (last.Val == 1) && slices.Equal(v.Clock, outer) && f.timely(operands[0], outer)
	case impl.OpMerge:
		return number >= 0 && slices.Equal(v.Clock, k) && len(k) < impl.MaxClock &&
			f.timely(operands[0], append(slices.Clone(k), on(last.Name))) &&
			f.timely(operands[1], append(slices.Clone(k), off(last.Name)))
	}
	return !slices.ContainsFunc(operands, func(operand itemList) bool { return !f.timely(operand, k) })
}

// cycles joins what each variable depends on, step by step, until nothing is added.
func (f *finder) cycles() {
	size := len(f.vars)
	depends := make([][]bool, size)
	for x := range depends {
		depends[x] = make([]bool, size)
	}
	for _, e := range f.node.Eqs {
		for _, s := range e.Lhs {
			_, x := f.variable(s)
			for _, read := range f.reads(e) {
				if _, y := f.variable(read); x >= 0 && y >= len(f.node.Ins) {
					depends[x][y] = true
				}
			}
		}
	}
	for middle := range size {
		for x := range size {
			for y := range size {
				depends[x][y] = depends[x][y] || depends[x][middle] && depends[middle][y]
			}
		}
	}
	for x := range size {
		f.find(depends[x][x], groupCycle, 0, impl.CheckCycle)
	}
}

func (f *finder) reads(e impl.Equation) []string {
	var names []string
	for _, s := range e.Lhs {
		v, _ := f.variable(s)
		for _, c := range v.Clock {
			names = append(names, c.Name)
		}
	}
	for _, items := range codes(e) {
		names = append(names, readsOf(items)...)
	}
	return names
}

func readsOf(items itemList) []string {
	last := items[len(items)-1]
	if last.Op == impl.OpFby || last.Op == impl.OpFbyB {
		return nil
	}
	names := []string{last.Name}
	for _, operand := range parts(items, arity(last.Op)) {
		names = append(names, readsOf(operand)...)
	}
	return names
}

func (f *finder) weights() {
	inner := 0
	for _, e := range f.node.Eqs {
		inner += innerOf(e)
	}
	f.find(weightOf(f.program, f.number) > impl.MaxWeight, groupWeight, 0, impl.CheckWeight)
	f.find(len(f.vars)+inner > impl.MaxVars, groupWeight, 0, impl.CheckWeight)
	f.find(len(f.node.Eqs)+inner > impl.MaxEqs, groupWeight, 0, impl.CheckWeight)
}

func innerOf(e impl.Equation) int {
	inner := 0
	for _, items := range codes(e) {
		for i, item := range items {
			if (item.Op == impl.OpFby || item.Op == impl.OpFbyB) && (e.Call != "" || i < len(items)-1) {
				inner++
			}
		}
	}
	return inner
}

// weightOf is cut off at the end alone: it is asked only for programs whose weights don't grow far.
func weightOf(p impl.Program, node int) int {
	weight := 1
	for _, e := range p.Nodes[node].Eqs {
		weight += 1 + 2*innerOf(e)
		for _, items := range codes(e) {
			weight += len(items)
		}
		for before, n := range p.Nodes[:node] {
			if n.Name == e.Call {
				weight += weightOf(p, before)
				break
			}
		}
	}
	return min(weight, impl.MaxWeight+1)
}
