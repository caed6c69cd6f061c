package tests

import (
	"slices"

	"loop.example/s0043/impl"
)

// damaged changes a program at so many random places; it stays well formed in most cases.
func (m maker) damaged(p impl.Program, times int) impl.Program {
	p = copied(p)
	for range times {
		// What has lost its shape may have no place left.
		if !impl.ShapeOK(p) {
			break
		}
		m.damage(p)
	}
	return p
}

func (m maker) damage(p impl.Program) {
	n := &p.Nodes[m.Intn(len(p.Nodes))]
	e := &n.Eqs[m.Intn(len(n.Eqs))]
	switch m.Intn(14) {
	case 0:
		n.Name = pick(m, p.Nodes).Name
	case 1:
		v := m.anyVar(n)
		v.Name = m.nameIn(*n)
	case 2:
		v := m.anyVar(n)
		v.Type = 3 - v.Type
	case 3, 4:
		m.damageClock(n)
	case 5:
		e.Lhs[m.Intn(len(e.Lhs))] = m.nameIn(*n)
	case 6:
		n.Eqs = append(n.Eqs, pick(m, n.Eqs))
	case 7:
		i := m.Intn(len(n.Eqs))
		n.Eqs = slices.Delete(n.Eqs, i, i+1)
	case 8:
		if e.Call != "" {
			e.Call = pick(m, p.Nodes).Name
		}
	case 9:
		if len(e.Args) > 0 {
			e.Args = e.Args[1:]
		}
	case 10:
		e.Lhs = append(e.Lhs, m.nameIn(*n))
	default:
		m.damageCode(n, e)
	}
}

func (m maker) anyVar(n *impl.Node) *impl.Var {
	lists := slices.DeleteFunc([][]impl.Var{n.Ins, n.Outs, n.Vars}, func(vars []impl.Var) bool { return len(vars) == 0 })
	list := pick(m, lists)
	return &list[m.Intn(len(list))]
}

func (m maker) nameIn(n impl.Node) string {
	if m.Intn(8) == 0 {
		return "nowhere"
	}
	return m.anyVar(&n).Name
}

func (m maker) damageClock(n *impl.Node) {
	if len(n.Vars) == 0 {
		return
	}
	v := &n.Vars[m.Intn(len(n.Vars))]
	if len(v.Clock) == 0 || m.Intn(3) == 0 {
		v.Clock = append(v.Clock, impl.Cond{Name: m.nameIn(*n), On: m.Intn(2) == 0})
		return
	}
	i := m.Intn(len(v.Clock))
	switch m.Intn(3) {
	case 0:
		v.Clock[i].On = !v.Clock[i].On
	case 1:
		v.Clock[i].Name = m.nameIn(*n)
	default:
		v.Clock = slices.Delete(v.Clock, i, i+1)
	}
}

// damageCode changes one item, for one with as many operands.
func (m maker) damageCode(n *impl.Node, e *impl.Equation) {
	lists := codes(*e)
	if len(lists) == 0 {
		return
	}
	items := pick(m, lists)
	i := m.Intn(len(items))
	item := &items[i]
	if item.Name != "" && m.Intn(2) == 0 {
		item.Name = m.nameIn(*n)
		return
	}
	replacements := [][]impl.Item{
		{number(1), truth(1), name(m.nameIn(*n)), name(m.nameIn(*n))},
		{op(impl.OpNeg), op(impl.OpNot), fby(1), fbyB(0), when(m.nameIn(*n)), whenot(m.nameIn(*n))},
		{op(impl.OpAdd + m.Intn(14)), merge(m.nameIn(*n))},
		{op(impl.OpIf)},
	}
	*item = pick(m, replacements[arity(item.Op)])
}
