package tests

import (
	"slices"
	"strings"
	"testing"

	"loop.example/s0043/impl"
)

// keywords and symbols of 1.2.
var (
	keywords = strings.Fields("node returns var let tel int bool when whenot if then else fby merge true false and or xor not mod")
	symbols  = strings.Fields("( ) : ; , = <> < <= > >= + - * /")
)

// head is a text up to the right side of an equation.
const head = "node f() returns (z: int) let z = "

func around(expression string) string {
	return head + expression + "; tel"
}

func wantParse(t *testing.T, src string, code, at int) {
	t.Helper()
	p, gotCode, gotAt := impl.Parse(src)
	if gotCode != code || gotAt != at {
		t.Errorf("%q: code %d at %d, asked for code %d at %d", short(src), gotCode, gotAt, code, at)
	}
	if (len(p.Nodes) == 0) != (gotCode != impl.ParseOK) {
		t.Errorf("%q: code %d with %d nodes", short(src), gotCode, len(p.Nodes))
	}
}

func short(src string) string {
	if len(src) > 200 {
		return src[:100] + " .. " + src[len(src)-100:]
	}
	return src
}

func parsed(t *testing.T, src string) impl.Program {
	t.Helper()
	p, code, at := impl.Parse(src)
	if code != impl.ParseOK || at != 0 {
		t.Fatalf("%q: code %d at %d", short(src), code, at)
	}
	return p
}

func number(v int) impl.Item           { return impl.Item{Op: impl.OpInt, Val: v} }
func truth(v int) impl.Item            { return impl.Item{Op: impl.OpBool, Val: v} }
func name(s string) impl.Item          { return impl.Item{Op: impl.OpVar, Name: s} }
func op(op int) impl.Item              { return impl.Item{Op: op} }
func fby(v int) impl.Item              { return impl.Item{Op: impl.OpFby, Val: v} }
func fbyB(v int) impl.Item             { return impl.Item{Op: impl.OpFbyB, Val: v} }
func when(c string) impl.Item          { return impl.Item{Op: impl.OpWhen, Val: 1, Name: c} }
func whenot(c string) impl.Item        { return impl.Item{Op: impl.OpWhen, Name: c} }
func merge(c string) impl.Item         { return impl.Item{Op: impl.OpMerge, Name: c} }
func code(items ...impl.Item) itemList { return items }

type itemList = []impl.Item

func plain(lhs string, items ...impl.Item) impl.Equation {
	return impl.Equation{Lhs: []string{lhs}, Code: items}
}

func call(lhs []string, node string, args ...itemList) impl.Equation {
	return impl.Equation{Lhs: lhs, Call: node, Args: args}
}

func intVar(s string, clock ...impl.Cond) impl.Var {
	return impl.Var{Name: s, Type: impl.TypeInt, Clock: clock}
}

func boolVar(s string, clock ...impl.Cond) impl.Var {
	return impl.Var{Name: s, Type: impl.TypeBool, Clock: clock}
}

func on(c string) impl.Cond  { return impl.Cond{Name: c, On: true} }
func off(c string) impl.Cond { return impl.Cond{Name: c} }

// one gives a program with one node, one output and these equations.
func one(eqs ...impl.Equation) impl.Program {
	return impl.Program{Nodes: []impl.Node{{Name: "f", Outs: []impl.Var{intVar("z")}, Eqs: eqs}}}
}

// Programs are held against each other list by list: whether an empty list is nil makes no difference.
func sameProgram(p, q impl.Program) bool {
	return slices.EqualFunc(p.Nodes, q.Nodes, func(a, b impl.Node) bool {
		return a.Name == b.Name && sameVars(a.Ins, b.Ins) && sameVars(a.Outs, b.Outs) && sameVars(a.Vars, b.Vars) &&
			slices.EqualFunc(a.Eqs, b.Eqs, sameEquation)
	})
}

func sameVars(a, b []impl.Var) bool {
	return slices.EqualFunc(a, b, func(v, w impl.Var) bool {
		return v.Name == w.Name && v.Type == w.Type && slices.Equal(v.Clock, w.Clock)
	})
}

func sameEquation(a, b impl.Equation) bool {
	return slices.Equal(a.Lhs, b.Lhs) && slices.Equal(a.Code, b.Code) && a.Call == b.Call &&
		slices.EqualFunc(a.Args, b.Args, func(x, y itemList) bool { return slices.Equal(x, y) })
}

func copied(p impl.Program) impl.Program {
	q := impl.Program{Nodes: slices.Clone(p.Nodes)}
	for i := range q.Nodes {
		n := &q.Nodes[i]
		n.Ins, n.Outs, n.Vars = copiedVars(n.Ins), copiedVars(n.Outs), copiedVars(n.Vars)
		n.Eqs = slices.Clone(n.Eqs)
		for j := range n.Eqs {
			e := &n.Eqs[j]
			e.Lhs, e.Code, e.Args = slices.Clone(e.Lhs), slices.Clone(e.Code), slices.Clone(e.Args)
			for k := range e.Args {
				e.Args[k] = slices.Clone(e.Args[k])
			}
		}
	}
	return q
}

func copiedVars(vars []impl.Var) []impl.Var {
	out := slices.Clone(vars)
	for i := range out {
		out[i].Clock = slices.Clone(out[i].Clock)
	}
	return out
}
