package tests

import (
	"slices"

	"loop.example/s0043/impl"
)

// A second reading of 2.3, word by word: instants of the node for all contexts, values found one by one until none is
// missing, and every called node read anew for every instant.

type streams struct {
	program impl.Program
	node    impl.Node
	rows    [][]int
	clocks  map[string][]impl.Cond
	values  map[string]map[int]int
}

func nodeNamed(p impl.Program, s string) impl.Node {
	return p.Nodes[slices.IndexFunc(p.Nodes, func(n impl.Node) bool { return n.Name == s })]
}

func readStreams(p impl.Program, n impl.Node, rows [][]int) [][]int {
	s := &streams{p, n, rows, map[string][]impl.Cond{}, map[string]map[int]int{}}
	for _, v := range slices.Concat(n.Ins, n.Outs, n.Vars) {
		s.clocks[v.Name], s.values[v.Name] = v.Clock, map[int]int{}
	}
	for k, in := range n.Ins {
		for i, row := range rows {
			s.values[in.Name][i] = row[k]
		}
	}
	for found := true; found; {
		found = false
		for _, e := range n.Eqs {
			for i := range rows {
				found = s.satisfy(e, i) || found
			}
		}
	}
	out := make([][]int, len(rows))
	for i := range rows {
		for _, v := range n.Outs {
			value, known := s.values[v.Name][i]
			if !known {
				panic("no value for " + v.Name)
			}
			out[i] = append(out[i], value)
		}
	}
	return out
}

// satisfy tells whether it found a value that was missing.
func (s *streams) satisfy(e impl.Equation, i int) bool {
	if _, known := s.values[e.Lhs[0]][i]; known {
		return false
	}
	k := s.clocks[e.Lhs[0]]
	if present, known := s.present(k, i); !known || !present {
		return false
	}
	if e.Call == "" {
		value, known := s.value(e.Code, k, i)
		if known {
			s.values[e.Lhs[0]][i] = value
		}
		return known
	}
	return s.satisfyCall(e, k, i)
}

func (s *streams) satisfyCall(e impl.Equation, k []impl.Cond, i int) bool {
	var rows [][]int
	for j := range i + 1 {
		present, known := s.present(k, j)
		if !known {
			return false
		}
		if !present {
			continue
		}
		row := []int{}
		for _, arg := range e.Args {
			value, known := s.value(arg, k, j)
			if !known {
				return false
			}
			row = append(row, value)
		}
		rows = append(rows, row)
	}
	outs := readStreams(s.program, nodeNamed(s.program, e.Call), rows)
	for n, name := range e.Lhs {
		s.values[name][i] = outs[len(outs)-1][n]
	}
	return true
}

func (s *streams) present(k []impl.Cond, i int) (present, known bool) {
	for _, c := range k {
		value, known := s.values[c.Name][i]
		if !known {
			return false, false
		}
		if (value == 1) != c.On {
			return false, true
		}
	}
	return true, true
}

func (s *streams) value(items itemList, k []impl.Cond, i int) (value int, known bool) {
	last := items[len(items)-1]
	operands := parts(items, arity(last.Op))
	switch last.Op {
	case impl.OpVar:
		value, known = s.values[last.Name][i]
		return value, known
	case impl.OpWhen:
		return s.value(operands[0], k[:len(k)-1], i)
	case impl.OpMerge:
		c, known := s.values[last.Name][i]
		if !known {
			return 0, false
		}
		return s.value(operands[1-c], append(slices.Clone(k), impl.Cond{Name: last.Name, On: c == 1}), i)
	case impl.OpFby, impl.OpFbyB:
		for j := i - 1; j >= 0; j-- {
			if present, known := s.present(k, j); !known {
				return 0, false
			} else if present {
				return s.value(operands[0], k, j)
			}
		}
		return last.Val, true
	}
	var values []int
	for _, operand := range operands {
		value, known := s.value(operand, k, i)
		if !known {
			return 0, false
		}
		values = append(values, value)
	}
	return result(last, values), true
}

// result is that of an item from whole numbers without bounds, wrapped by the words of section 0.
func result(item impl.Item, v []int) int {
	switch item.Op {
	case impl.OpInt, impl.OpBool:
		return item.Val
	case impl.OpNeg:
		return wrapped(-v[0])
	case impl.OpNot:
		return 1 - v[0]
	case impl.OpAdd:
		return wrapped(v[0] + v[1])
	case impl.OpSub:
		return wrapped(v[0] - v[1])
	case impl.OpMul:
		return wrapped(v[0] * v[1])
	case impl.OpDiv:
		if v[1] == 0 {
			return 0
		}
		return wrapped(v[0] / v[1])
	case impl.OpMod:
		if v[1] == 0 {
			return 0
		}
		return v[0] - v[1]*(v[0]/v[1])
	case impl.OpIf:
		return v[2-v[0]]
	}
	held := map[int]bool{
		impl.OpEq: v[0] == v[1], impl.OpNe: v[0] != v[1], impl.OpLt: v[0] < v[1], impl.OpLe: v[0] <= v[1],
		impl.OpGt: v[0] > v[1], impl.OpGe: v[0] >= v[1],
		impl.OpAnd: v[0]+v[1] == 2, impl.OpOr: v[0]+v[1] > 0, impl.OpXor: v[0]+v[1] == 1,
	}
	if held[item.Op] {
		return 1
	}
	return 0
}

func wrapped(v int) int {
	for v > impl.MaxInt {
		v -= max(1, (v-impl.MaxInt)>>32) << 32
	}
	for v < -impl.MaxInt-1 {
		v += max(1, (-impl.MaxInt-1-v)>>32) << 32
	}
	return v
}
