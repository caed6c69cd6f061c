package tests

import (
	"slices"
	"testing"

	"loop.example/s0043/impl"
)

// Promise 15.

// prefixed gives variables like these with other names and one clock.
func prefixed(prefix string, vars []impl.Var, clock ...impl.Cond) ([]impl.Var, []string) {
	var list []impl.Var
	var names []string
	for i, v := range vars {
		s := prefix + string(rune('a'+i))
		list = append(list, impl.Var{Name: s, Type: v.Type, Clock: slices.Clone(clock)})
		names = append(names, s)
	}
	return list, names
}

func readings(names []string, items ...impl.Item) []itemList {
	var args []itemList
	for _, s := range names {
		args = append(args, append(code(name(s)), items...))
	}
	return args
}

// parted calls the node called n on complementary clocks, and merges what comes out.
func parted(n impl.Node) impl.Node {
	ins, inNames := prefixed("i", n.Ins)
	outs, outNames := prefixed("o", n.Outs)
	yes, yesNames := prefixed("y", n.Outs, on("c"))
	no, noNames := prefixed("n", n.Outs, off("c"))
	w := impl.Node{Name: "parted", Ins: append([]impl.Var{boolVar("c")}, ins...), Outs: outs, Vars: slices.Concat(yes, no)}
	for i, s := range outNames {
		w.Eqs = append(w.Eqs, plain(s, name(yesNames[i]), name(noNames[i]), merge("c")))
	}
	w.Eqs = append(w.Eqs, call(yesNames, n.Name, readings(inNames, when("c"))...), call(noNames, n.Name, readings(inNames, whenot("c"))...))
	return w
}

// someNodes gives many programs, each with one of its nodes.
func someNodes(yield func(impl.Program, impl.Node) bool) {
	for seed := range int64(1500) {
		p := passing(seed)
		if !yield(p, pick(newMaker(seed), p.Nodes)) {
			return
		}
	}
}

func TestCallsOnComplementaryClocks(t *testing.T) {
	m := newMaker(1)
	for p, n := range someNodes {
		rows := m.rowsFor(n, 10)
		p.Nodes = append(p.Nodes, parted(n))
		var wide [][]int
		var sorted [2][][]int
		for _, row := range rows {
			c := m.Intn(2)
			wide = append(wide, append([]int{c}, row...))
			sorted[c] = append(sorted[c], row)
		}
		no, _ := impl.Run(p, n.Name, sorted[0])
		yes, _ := impl.Run(p, n.Name, sorted[1])
		var want [][]int
		for _, row := range wide {
			if row[0] == 1 {
				want, yes = append(want, yes[0]), yes[1:]
			} else {
				want, no = append(want, no[0]), no[1:]
			}
		}
		wantRows(t, p, "parted", wide, want)
	}
}

// Two calls side by side, with rows of their own, are two runs.
func TestCallsSideBySide(t *testing.T) {
	m := newMaker(2)
	for p, n := range someNodes {
		firstIns, firstNames := prefixed("i", n.Ins)
		secondIns, secondNames := prefixed("j", n.Ins)
		firstOuts, firstLefts := prefixed("o", n.Outs)
		secondOuts, secondLefts := prefixed("p", n.Outs)
		p.Nodes = append(p.Nodes, impl.Node{Name: "both", Ins: slices.Concat(firstIns, secondIns), Outs: slices.Concat(firstOuts, secondOuts),
			Eqs: []impl.Equation{call(firstLefts, n.Name, readings(firstNames)...), call(secondLefts, n.Name, readings(secondNames)...)}})
		first, second := m.rowsFor(n, 10), m.rowsFor(n, 10)
		firstWant, _ := impl.Run(p, n.Name, first)
		secondWant, _ := impl.Run(p, n.Name, second)
		var rows, want [][]int
		for i := range first {
			rows = append(rows, slices.Concat(first[i], second[i]))
			want = append(want, slices.Concat(firstWant[i], secondWant[i]))
		}
		wantRows(t, p, "both", rows, want)
	}
}

// What stands in the rows while the call's context is absent leaves no trace.
func TestCallsSeeNothingElse(t *testing.T) {
	m := newMaker(3)
	for p, n := range someNodes {
		p.Nodes = append(p.Nodes, parted(n))
		first, second := m.rowsFor(n, 10), m.rowsFor(n, 10)
		for i := range first {
			c := m.Intn(2)
			if c == 1 {
				second[i] = first[i]
			}
			first[i], second[i] = append([]int{c}, first[i]...), append([]int{c}, second[i]...)
		}
		firstGot, code := impl.Run(p, "parted", first)
		secondGot, secondCode := impl.Run(p, "parted", second)
		if code != impl.RunOK || secondCode != impl.RunOK {
			t.Fatal(code, secondCode)
		}
		for i, row := range first {
			if row[0] == 1 && !slices.Equal(firstGot[i], secondGot[i]) {
				t.Fatalf("row %d hangs on rows that the call doesn't see, in\n%s", i, impl.Print(p))
			}
		}
	}
}

func TestCallsInNumbers(t *testing.T) {
	p := parsed(t, `
node sum(x: int) returns (y: int) let y = (0 fby y) + x; tel
node f(c: bool; x: int) returns (a: int; b: int; y: int)
var u: int when c; v: int whenot c;
let a = sum(x); b = sum(- x); u = sum(x when c); v = sum(x whenot c); y = merge c u v; tel`)
	wantRows(t, p, "f", [][]int{{1, 1}, {0, 10}, {1, 2}, {0, 20}, {0, 30}, {1, 4}},
		[][]int{{1, -1, 1}, {11, -11, 10}, {13, -13, 3}, {33, -33, 30}, {63, -63, 60}, {67, -67, 7}})
}
