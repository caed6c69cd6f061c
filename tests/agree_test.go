package tests

import (
	"slices"
	"strconv"
	"strings"
	"testing"

	"loop.example/s0043/impl"
)

// Promise 13: playing the compiled text gives what reading the source as streams gives.

// wantAgreed asks Play and Eval for one answer, and gives it.
func wantAgreed(t *testing.T, src, name, script string) string {
	t.Helper()
	text, code, at := impl.Compile(src, name)
	if code != impl.CompileOK {
		t.Fatalf("%q of %q: code %d at %d", name, short(src), code, at)
	}
	got, want := impl.Play(text, script), impl.Eval(src, name, script)
	if got != want {
		t.Errorf("%q of\n%s\nwith %q: Play gives\n%s\nEval gives\n%s", name, short(src), short(script), short(got), short(want))
	}
	return want
}

func wantAnswer(t *testing.T, src, name, script, want string) {
	t.Helper()
	if got := wantAgreed(t, src, name, script); got != want {
		t.Errorf("%q of\n%s\nwith %q gives %q, asked for %q", name, short(src), short(script), short(got), short(want))
	}
}

func TestAgreeOnTheExample(t *testing.T) {
	wantAnswer(t, example, "main", "t 5\nf 7\nt 2\n", "5\n5\n7\n")
	wantAnswer(t, example, "main", "t 5\nf 7\nt 2", "5\n5\n7\n")
	wantAnswer(t, example, "count", "f 5\nf 7\nt 2\nf 1\n", "5\n12\n0\n1\n")
	for seed := range int64(100) {
		m := newMaker(seed)
		for _, name := range []string{"count", "main"} {
			script := m.script([]int{impl.TypeBool, impl.TypeInt}, m.Intn(20), 3)
			wantAnswer(t, example, name, script, evaluatedAgain(example, name, script))
		}
	}
}

func TestAgreeByHand(t *testing.T) {
	sum := "node sum(i: int) returns (o: int) let o = (0 fby o) + i; tel "
	cases := []struct{ src, script, want string }{
		{"node f(c: bool; x: int) returns (z: int) var u: int when c; let u = 9 fby (x when c); z = merge c u (-1); tel",
			"t 1\nf 2\nt 3\nt 4\nf 5\n", "9\n-1\n1\n3\n-1\n"},
		{"node f(c: bool; x: int) returns (z: int) var u: int when c; let u = (9 fby x) when c; z = merge c u (-1); tel",
			"t 1\nf 2\nt 3\nt 4\nf 5\n", "9\n-1\n2\n3\n-1\n"},
		{"node f(c: bool; x: int) returns (z: int) let z = merge c (1 fby (x when c)) (2 fby (x whenot c)); tel",
			"f 10\nt 20\nt 30\nf 40\nf 50\nt 60\n", "2\n1\n20\n10\n40\n30\n"},
		{"node f(x: int) returns (q: int; r: int; neg: bool) let q = x / 3; r = x mod 3; neg = x < 0; tel",
			"7\n-7\n0\n-2147483648\n", "2 1 f\n-2 -1 t\n0 0 f\n-715827882 -2 t\n"},
		{"node f() returns (n: int; even: bool) let n = 0 fby n + 1; even = n mod 2 = 0; tel", ".\n.\n\n.\n", "0 t\n1 f\n2 t\n"},
		{sum + "node f(x: int; c: bool) returns (z: int) var a: int when c; b: int whenot c; let a = sum((5 fby x) when c); b = sum(x whenot c); z = merge c a b; tel",
			"1 t\n2 f\n3 t\n4 f\n5 t\n", "5\n2\n7\n6\n11\n"},
		{sum + "node f(i: int) returns (a: int; b: bool) var u: int; let a = sum(u); u = sum(i); b = a > 9; tel", "1\n2\n3\n", "1 f\n4 f\n10 t\n"},
		{"node f(b: bool) returns (p: bool; q: bool) let p = true fby b; q = false fby (true fby b) xor b; tel", "t\nf\nt\nt\n", "t f\nt f\nf t\nt t\n"},
		{"node f(x: int; y: int) returns (a: int; b: int; c: int) let a = x + y; b = x * y; c = - x; tel",
			"2147483647 1\n-2147483648 -1\n", "-2147483648 2147483647 -2147483647\n2147483647 -2147483648 -2147483648\n"},
		{"node f(x: int) returns (z: int) let z = 1 fby 2 fby 3 fby x; tel", "7\n8\n9\n10\n", "1\n2\n3\n7\n"},
	}
	for _, c := range cases {
		wantAnswer(t, c.src, "f", c.script, c.want)
	}
}

// kindsOf tells which of the language's things a node has.
func kindsOf(n impl.Node) []string {
	kinds := []string{}
	note := func(holds bool, kind string) {
		if holds {
			kinds = append(kinds, kind)
		}
	}
	note(len(n.Ins) == 0, "no inputs")
	types := varTypes(n.Outs)
	note(len(types) > 1, "several outputs")
	note(slices.Contains(types, impl.TypeInt) && slices.Contains(types, impl.TypeBool), "outputs of both types")
	note(slices.ContainsFunc(n.Vars, func(v impl.Var) bool { return len(v.Clock) > 0 }), "clocks")
	note(slices.ContainsFunc(n.Vars, func(v impl.Var) bool { return len(v.Clock) > 1 }), "clocks in clocks")
	for _, e := range n.Eqs {
		note(e.Call != "", "calls")
		note(innerOf(e) > 0, "inner fbys")
		for _, items := range codes(e) {
			note(slices.ContainsFunc(items, func(item impl.Item) bool { return item.Op == impl.OpMerge }), "merges")
		}
	}
	return kinds
}

func TestAgreeAtRandom(t *testing.T) {
	count := map[string]int{}
	for seed := range int64(1500) {
		m := newMaker(seed)
		p := withoutFreshNames(t, passing(seed))
		src := m.sourceOf(p)
		for _, n := range p.Nodes {
			for range 2 {
				script := m.script(varTypes(n.Ins), m.Intn(10), 4)
				got := wantAgreed(t, src, n.Name, script)
				if want := evaluatedAgain(src, n.Name, script); got != want {
					t.Errorf("seed %d, %q with %q gives %q, asked for %q", seed, n.Name, script, got, want)
				}
				if strings.HasPrefix(got, "script ") {
					count["bad scripts"]++
					continue
				}
				for _, kind := range kindsOf(n) {
					count[kind]++
				}
			}
		}
	}
	for _, kind := range []string{"no inputs", "several outputs", "outputs of both types", "clocks", "clocks in clocks", "calls", "inner fbys", "merges", "bad scripts"} {
		if count[kind] < 300 {
			t.Error("too few of", kind, count)
		}
	}
}

// Longer scripts than the second reading has the time for.
func TestAgreeOnLongScripts(t *testing.T) {
	for seed := range int64(300) {
		m := newMaker(seed)
		p := withoutFreshNames(t, passing(seed))
		n := pick(m, p.Nodes)
		count := pick(m, []int{100, 300, impl.MaxRows})
		got := wantAgreed(t, m.sourceOf(p), n.Name, m.script(varTypes(n.Ins), count, 1000))
		if strings.Count(got, "\n") != count && !strings.HasPrefix(got, "script ") {
			t.Error("seed", seed, "gives", strings.Count(got, "\n"), "lines for", count)
		}
	}
}

func TestAgreeOnAnyScript(t *testing.T) {
	pieces := []string{"t", "f", "1", "5", "-", "0", " ", " ", "\n", "\n", ".", "\r", "t 1\n", "f -2\n", "2147483647", "t 5"}
	for seed := range int64(3000) {
		m := newMaker(seed)
		script := m.junk(pieces, 12)
		for _, name := range []string{"count", "main"} {
			wantAnswer(t, example, name, script, evaluatedAgain(example, name, script))
		}
	}
}

func TestAgreeAtTheLimits(t *testing.T) {
	m := newMaker(1)
	deep := deepNode("(0 fby u) + (1 fby x CLOCK)")
	types := varTypes(parsed(t, deep).Nodes[0].Ins)
	wantAgreed(t, deep, "f", m.script(types, 500, 1000))
	heavy := strings.TrimSuffix(tooHeavy(), tooHeavy()[strings.LastIndex(tooHeavy(), "node "):])
	wantAnswer(t, heavy, "n10", strings.Repeat(".\n", 100), strings.Repeat("1024\n", 100))
	ins, outs, eqs := "", "", ""
	for i := range impl.MaxVars / 2 {
		n := strconv.Itoa(i)
		ins, outs, eqs = ins+"; i"+n+": int", outs+"; o"+n+": int", "o"+n+" = i"+n+"; "+eqs
	}
	wide := "node f(" + ins[2:] + ") returns (" + outs[2:] + ") let " + eqs + "tel"
	row := strings.TrimSuffix(strings.Repeat("1 -2 ", impl.MaxVars/4), " ") + "\n"
	wantAnswer(t, wide, "f", strings.Repeat(row, 100), strings.Repeat(row, 100))
}
