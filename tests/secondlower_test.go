package tests

import (
	"slices"
	"strconv"

	"loop.example/s0043/impl"
)

// A second reading of chapter 4: expressions are cut into their operands and put together again, equations are looked for
// one by one, and bodies are fused as flat lists, two Ifs at a time.

// rewriter takes the inner fbys out of one node.
type rewriter struct {
	names []string
	count int
	vars  []impl.Var
	eqs   []impl.Equation
}

func variableNames(n impl.Node) []string {
	var names []string
	for _, v := range slices.Concat(n.Ins, n.Outs, n.Vars) {
		names = append(names, v.Name)
	}
	return names
}

func clockIn(n impl.Node, s string) []impl.Cond {
	vars := slices.Concat(n.Ins, n.Outs, n.Vars)
	return vars[slices.Index(variableNames(n), s)].Clock
}

func normalisedAgain(p impl.Program) impl.Program {
	p = copied(p)
	for i, n := range p.Nodes {
		w := &rewriter{names: variableNames(n)}
		for _, e := range n.Eqs {
			k := clockIn(n, e.Lhs[0])
			if e.Call == "" {
				e.Code = w.rewrite(e.Code, k, true)
			}
			for a := range e.Args {
				e.Args[a] = w.rewrite(e.Args[a], k, false)
			}
			w.eqs = append(w.eqs, e)
		}
		p.Nodes[i].Vars, p.Nodes[i].Eqs = append(n.Vars, w.vars...), w.eqs
	}
	return p
}

func isFbyOp(op int) bool {
	return op == impl.OpFby || op == impl.OpFbyB
}

func (w *rewriter) rewrite(items itemList, k []impl.Cond, whole bool) itemList {
	last := items[len(items)-1]
	var out itemList
	for i, operand := range parts(items, arity(last.Op)) {
		inside := k
		switch last.Op {
		case impl.OpWhen:
			inside = k[:len(k)-1]
		case impl.OpMerge:
			inside = append(slices.Clone(k), impl.Cond{Name: last.Name, On: i == 0})
		}
		out = append(out, w.rewrite(operand, inside, false)...)
	}
	out = append(out, last)
	if whole || !isFbyOp(last.Op) {
		return out
	}
	return code(name(w.lift(out, k)))
}

func (w *rewriter) lift(items itemList, k []impl.Cond) string {
	fresh := ""
	for fresh == "" || slices.Contains(w.names, fresh) {
		w.count++
		fresh = "$" + strconv.Itoa(w.count)
	}
	kind := impl.TypeInt
	if items[len(items)-1].Op == impl.OpFbyB {
		kind = impl.TypeBool
	}
	w.vars = append(w.vars, impl.Var{Name: fresh, Type: kind, Clock: k})
	w.eqs = append(w.eqs, plain(fresh, items...))
	return fresh
}

func orderAgain(n impl.Node) []int {
	f := &finder{node: n, vars: slices.Concat(n.Ins, n.Outs, n.Vars)}
	// Items without a name read none.
	known := []string{""}
	for _, in := range n.Ins {
		known = append(known, in.Name)
	}
	unknown := func(s string) bool { return !slices.Contains(known, s) }
	var taken []int
	for len(taken) < len(n.Eqs) {
		e := slices.IndexFunc(n.Eqs, func(e impl.Equation) bool {
			return unknown(e.Lhs[0]) && !slices.ContainsFunc(f.reads(e), unknown)
		})
		taken = append(taken, e)
		known = append(known, n.Eqs[e].Lhs...)
	}
	return taken
}

func translatedAgain(p impl.Program) impl.Machine {
	q := normalisedAgain(p)
	var m impl.Machine
	for _, n := range q.Nodes {
		m.Classes = append(m.Classes, classAgain(q, n))
	}
	return m
}

func classAgain(q impl.Program, n impl.Node) impl.Class {
	c := impl.Class{Name: n.Name}
	for _, v := range n.Ins {
		c.Ins = append(c.Ins, impl.Slot{Name: v.Name, Type: v.Type})
	}
	for _, v := range n.Outs {
		c.Outs = append(c.Outs, impl.Slot{Name: v.Name, Type: v.Type})
	}
	for _, v := range n.Vars {
		c.Locs = append(c.Locs, v.Name)
	}
	sets, saves := make([]stmList, len(n.Eqs)), stmList(nil)
	for e, eq := range n.Eqs {
		clock := clockIn(n, eq.Lhs[0])
		if eq.Call != "" {
			var args []itemList
			for _, arg := range eq.Args {
				args = append(args, codeAgain(arg))
			}
			sets[e] = within(clock, invoke(len(c.Insts), eq.Lhs, args...))
			c.Insts = append(c.Insts, slices.IndexFunc(q.Nodes, func(n impl.Node) bool { return n.Name == eq.Call }))
			continue
		}
		last := eq.Code[len(eq.Code)-1]
		if !isFbyOp(last.Op) {
			sets[e] = within(clock, set(eq.Lhs[0], codeAgain(eq.Code)...))
			continue
		}
		cell := len(c.Mems)
		sets[e] = within(clock, set(eq.Lhs[0], mem(cell)))
		saves = append(saves, within(clock, save(cell, codeAgain(eq.Code[:len(eq.Code)-1])...))...)
		c.Mems = append(c.Mems, last.Val)
	}
	for _, e := range orderAgain(n) {
		c.Body = append(c.Body, sets[e]...)
	}
	c.Body = append(c.Body, saves...)
	return c
}

// within gives a statement within the Ifs of a clock.
func within(clock []impl.Cond, s impl.Stm) stmList {
	if len(clock) == 0 {
		return stms(s)
	}
	rest := within(clock[1:], s)
	if clock[0].On {
		return branches(clock[0].Name, rest, nil)
	}
	return branches(clock[0].Name, nil, rest)
}

func codeAgain(items itemList) itemList {
	last := items[len(items)-1]
	var out itemList
	for _, operand := range parts(items, arity(last.Op)) {
		out = append(out, codeAgain(operand)...)
	}
	switch last.Op {
	case impl.OpWhen:
		return out
	case impl.OpMerge:
		return slices.Concat(code(name(last.Name)), out, code(op(impl.OpIf)))
	}
	return append(out, last)
}

// placedIf is an If by the places of its three statements.
type placedIf struct {
	begin, middle, end int
}

// ifsOf gives the Ifs of a body in the order of their ends.
func ifsOf(body stmList) []placedIf {
	var open, closed []placedIf
	for i, s := range body {
		switch s.Kind {
		case impl.StmIf:
			open = append(open, placedIf{begin: i})
		case impl.StmElse:
			open[len(open)-1].middle = i
		case impl.StmEnd:
			last := open[len(open)-1]
			last.end = i
			open, closed = open[:len(open)-1], append(closed, last)
		}
	}
	return closed
}

// neighbours gives the pairs of Ifs on one variable that stand behind each other.
func neighbours(body stmList) [][2]placedIf {
	ending := map[int]placedIf{}
	var pairs [][2]placedIf
	for _, b := range ifsOf(body) {
		ending[b.end] = b
		if a, found := ending[b.begin-1]; found && body[a.begin].Name == body[b.begin].Name {
			pairs = append(pairs, [2]placedIf{a, b})
		}
	}
	return pairs
}

// fusedAgain joins pairs in whatever order they are picked.
func (m maker) fusedAgain(machine impl.Machine) impl.Machine {
	machine = copiedMachine(machine)
	for i := range machine.Classes {
		body := machine.Classes[i].Body
		for pairs := neighbours(body); len(pairs) > 0; pairs = neighbours(body) {
			pair := pick(m, pairs)
			body = joinedIfs(body, pair[0], pair[1])
		}
		machine.Classes[i].Body = body
	}
	return machine
}

func joinedIfs(body stmList, a, b placedIf) stmList {
	first := slices.Concat(body[a.begin+1:a.middle], body[b.begin+1:b.middle])
	second := slices.Concat(body[a.middle+1:a.end], body[b.middle+1:b.end])
	return slices.Concat(body[:a.begin], branches(body[a.begin].Name, first, second), body[b.end+1:])
}
