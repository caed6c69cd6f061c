package tests

import (
	"math"
	"slices"
	"strconv"

	"loop.example/s0043/impl"
)

// clocked makes programs that pass the check. The variables of a node come first, each with a place in an order in which
// it reads at once only what lies before it; then their equations; then all is shuffled.
type clocked struct {
	maker
	nodes []impl.Node
	vars  []placedVar
}

// placedVar has place -1 if it is an input.
type placedVar struct {
	impl.Var
	place int
}

// group is the left side of an equation that is still to be made.
type group struct {
	lhs   []placedVar
	calls *impl.Node
}

func passing(seed int64) impl.Program {
	m := &clocked{maker: newMaker(seed)}
	for i := range 1 + m.Intn(3) {
		m.nodes = append(m.nodes, m.makeNode("n"+strconv.Itoa(i)))
	}
	return impl.Program{Nodes: m.nodes}
}

func (m *clocked) makeNode(name string) impl.Node {
	n := impl.Node{Name: name}
	m.vars = nil
	for range m.Intn(4) {
		m.addVar(1+m.Intn(2), nil, -1)
	}
	groups := several(m.maker, 1, 7, func() group { return m.group(m.clock()) })
	if !slices.ContainsFunc(m.vars, func(v placedVar) bool { return v.place >= 0 && len(v.Clock) == 0 }) {
		groups = append(groups, m.group(nil))
	}
	for _, g := range groups {
		n.Eqs = append(n.Eqs, m.fill(g))
	}
	for _, v := range m.vars {
		switch {
		case v.place < 0:
			n.Ins = append(n.Ins, v.Var)
		case len(v.Clock) == 0 && (len(n.Outs) == 0 || m.Intn(3) == 0):
			n.Outs = append(n.Outs, v.Var)
		default:
			n.Vars = append(n.Vars, v.Var)
		}
	}
	m.Shuffle(len(n.Vars), func(i, j int) { n.Vars[i], n.Vars[j] = n.Vars[j], n.Vars[i] })
	m.Shuffle(len(n.Outs), func(i, j int) { n.Outs[i], n.Outs[j] = n.Outs[j], n.Outs[i] })
	m.Shuffle(len(n.Eqs), func(i, j int) { n.Eqs[i], n.Eqs[j] = n.Eqs[j], n.Eqs[i] })
	return n
}

func (m *clocked) addVar(kind int, clock []impl.Cond, place int) placedVar {
	s := "v" + strconv.Itoa(len(m.vars))
	if m.Intn(10) == 0 {
		s = "$" + strconv.Itoa(1+len(m.vars))
	}
	v := placedVar{impl.Var{Name: s, Type: kind, Clock: slices.Clone(clock)}, place}
	m.vars = append(m.vars, v)
	return v
}

// clock goes down from the base clock along conditions that are there already.
func (m *clocked) clock() []impl.Cond {
	var clock []impl.Cond
	for m.Intn(3) > 0 {
		conditions := m.readable(impl.TypeBool, clock, len(m.vars))
		if len(conditions) == 0 {
			break
		}
		clock = append(clock, impl.Cond{Name: pick(m.maker, conditions), On: m.Intn(2) == 0})
	}
	return clock
}

// readable gives the names of one type and clock that have their place before limit.
func (m *clocked) readable(kind int, clock []impl.Cond, limit int) []string {
	var names []string
	for _, v := range m.vars {
		if v.Type == kind && v.place < limit && slices.Equal(v.Clock, clock) {
			names = append(names, v.Name)
		}
	}
	return names
}

func (m *clocked) group(clock []impl.Cond) group {
	place := len(m.vars)
	if len(m.nodes) == 0 || m.Intn(3) > 0 {
		return group{lhs: []placedVar{m.addVar(1+m.Intn(2), clock, place)}}
	}
	g := group{calls: &m.nodes[m.Intn(len(m.nodes))]}
	for _, out := range g.calls.Outs {
		g.lhs = append(g.lhs, m.addVar(out.Type, clock, place))
	}
	return g
}

func (m *clocked) fill(g group) impl.Equation {
	first := g.lhs[0]
	e := impl.Equation{}
	for _, v := range g.lhs {
		e.Lhs = append(e.Lhs, v.Name)
	}
	if g.calls == nil {
		e.Code = m.fitting(first.Type, first.Clock, first.place, 1+m.Intn(4))
		return e
	}
	e.Call = g.calls.Name
	for _, in := range g.calls.Ins {
		e.Args = append(e.Args, m.fitting(in.Type, first.Clock, first.place, m.Intn(3)))
	}
	return e
}

// fitting gives an expression of a type that fits into a context and reads at once only names before limit.
func (m *clocked) fitting(kind int, k []impl.Cond, limit, depth int) itemList {
	if depth <= 0 {
		return m.leaf(kind, k, limit)
	}
	sub := func(kind int) itemList { return m.fitting(kind, k, limit, depth-1) }
	switch m.Intn(9) {
	case 0:
		return m.leaf(kind, k, limit)
	case 1:
		return append(sub(kind), op([]int{impl.OpNeg, impl.OpNot}[kind-1]))
	case 2, 3:
		return m.joined(kind, sub)
	case 4:
		return slices.Concat(sub(impl.TypeBool), sub(kind), sub(kind), code(op(impl.OpIf)))
	case 5, 6:
		item := fby(m.value() * (1 - 2*m.Intn(2)))
		if kind == impl.TypeBool {
			item = fbyB(m.Intn(2))
		}
		return append(m.fitting(kind, k, math.MaxInt, depth-1), item)
	case 7:
		return m.sampled(kind, k, limit, depth)
	default:
		conditions := m.readable(impl.TypeBool, k, limit)
		if len(conditions) == 0 || len(k) == impl.MaxClock {
			return m.sampled(kind, k, limit, depth)
		}
		c := pick(m.maker, conditions)
		then := m.fitting(kind, append(slices.Clone(k), on(c)), limit, depth-1)
		other := m.fitting(kind, append(slices.Clone(k), off(c)), limit, depth-1)
		return slices.Concat(then, other, code(merge(c)))
	}
}

func (m *clocked) leaf(kind int, k []impl.Cond, limit int) itemList {
	names := m.readable(kind, k, limit)
	if len(names) > 0 && m.Intn(5) > 0 {
		return code(name(pick(m.maker, names)))
	}
	if kind == impl.TypeBool {
		return code(truth(m.Intn(2)))
	}
	return code(number(m.value()))
}

func (m *clocked) joined(kind int, sub func(int) itemList) itemList {
	if kind == impl.TypeInt {
		return slices.Concat(sub(impl.TypeInt), sub(impl.TypeInt), code(op(impl.OpAdd+m.Intn(5))))
	}
	from := 1 + m.Intn(2)
	joint := impl.OpEq + m.Intn(6)
	if from == impl.TypeBool {
		joint = pick(m.maker, []int{impl.OpEq, impl.OpNe, impl.OpAnd, impl.OpOr, impl.OpXor})
	}
	return slices.Concat(sub(from), sub(from), code(op(joint)))
}

func (m *clocked) sampled(kind int, k []impl.Cond, limit, depth int) itemList {
	if len(k) == 0 {
		return m.leaf(kind, k, limit)
	}
	last := k[len(k)-1]
	item := whenot(last.Name)
	if last.On {
		item = when(last.Name)
	}
	return append(m.fitting(kind, k[:len(k)-1], limit, depth-1), item)
}

// rowsFor gives rows of the right values, many of them at the ends of the range.
func (m maker) rowsFor(n impl.Node, count int) [][]int {
	rows := make([][]int, count)
	for i := range rows {
		for _, in := range n.Ins {
			v := m.Intn(2)
			if in.Type == impl.TypeInt {
				v = pick(m, []int{0, 1, -1, 2, -3, 7, math.MinInt32, math.MinInt32 + 1, math.MaxInt32, m.Intn(1<<32) - 1<<31})
			}
			rows[i] = append(rows[i], v)
		}
	}
	return rows
}
