package tests

import (
	"slices"
	"strings"
	"testing"

	"loop.example/s0043/impl"
)

// Promise 2: Print, and Parse of what it gives.

// full has every kind of item, of clock and of equation.
func full() impl.Program {
	eqs := []impl.Equation{
		plain("z", name("a"), fby(-5)),
		plain("z", name("b"), fbyB(1)),
		plain("z", name("b"), op(impl.OpNot), name("a"), op(impl.OpNeg), number(7), op(impl.OpIf)),
		plain("z", name("a"), when("b"), name("a"), whenot("b"), merge("b")),
		call([]string{"u", "v"}, "g", code(name("a"), number(0), op(impl.OpAdd)), code(truth(1)), code(truth(0), fbyB(0))),
		call([]string{"w"}, "h"),
		plain("z", number(impl.MaxInt), fby(impl.MaxInt), fby(-impl.MaxInt), fby(0)),
	}
	for o := impl.OpAdd; o <= impl.OpXor; o++ {
		eqs = append(eqs, plain("z", name("a"), name("b"), op(o), name("c"), op(o)), plain("z", name("a"), name("b"), name("c"), op(o), op(o)))
	}
	return impl.Program{Nodes: []impl.Node{
		{
			Name: "f",
			Ins:  []impl.Var{intVar("a"), boolVar("b")},
			Outs: []impl.Var{intVar("z"), boolVar("y")},
			Vars: []impl.Var{intVar("u"), boolVar("v", on("b")), intVar("w", off("b"), on("v"))},
			Eqs:  eqs,
		},
		{Name: "k", Outs: []impl.Var{boolVar("y")}, Eqs: []impl.Equation{plain("y", name("y"))}},
	}}
}

const fullText = `node f(a: int; b: bool) returns (z: int; y: bool)
var u: int; v: bool when b; w: int whenot b when v;
let
  z = (-5 fby a);
  z = (true fby b);
  z = (if (not b) then (- a) else 7);
  z = (merge b (a when b) (a whenot b));
  u, v = g((a + 0), true, (false fby false));
  w = h();
  z = (0 fby (-2147483647 fby (2147483647 fby 2147483647)));
`

func TestPrintText(t *testing.T) {
	want := fullText
	for _, sign := range signs {
		want += "  z = ((a " + sign + " b) " + sign + " c);\n  z = (a " + sign + " (b " + sign + " c));\n"
	}
	want += "tel\nnode k() returns (y: bool)\nlet\n  y = y;\ntel\n"
	if text := impl.Print(full()); text != want {
		t.Errorf("%s\nasked for\n%s", text, want)
	}
}

func TestPrintFreshNames(t *testing.T) {
	p := impl.Program{Nodes: []impl.Node{{
		Name: "$9",
		Outs: []impl.Var{intVar("$1")},
		Vars: []impl.Var{intVar("$123456789", off("$2"))},
		Eqs:  []impl.Equation{plain("$1", name("$3"), when("$4"), name("$5"), merge("$6")), call([]string{"$1"}, "$7")},
	}}}
	want := "node $9() returns ($1: int)\nvar $123456789: int whenot $2;\nlet\n  $1 = (merge $6 ($3 when $4) $5);\n  $1 = $7();\ntel\n"
	if text := impl.Print(p); text != want {
		t.Error(text)
	}
	wantParse(t, want, impl.ParseLex, 5)
}

func wantBack(t *testing.T, p impl.Program) {
	t.Helper()
	text := impl.Print(p)
	if text == "" || len(text) > impl.MaxSource {
		t.Fatalf("a text of %d bytes", len(text))
	}
	q, code, at := impl.Parse(text)
	if code != impl.ParseOK || at != 0 || !sameProgram(p, q) {
		t.Fatalf("code %d at %d, for %s\nwhich gives %+v", code, at, short(text), q)
	}
	if impl.Print(q) != text {
		t.Fatal("another text the second time")
	}
}

func TestParseOfPrint(t *testing.T) {
	wantBack(t, full())
	for seed := range int64(2000) {
		if p := newMaker(seed).program(); len(impl.Print(p)) <= impl.MaxSource {
			wantBack(t, p)
		}
	}
}

// The bounds of 1.5, as far as their texts fit in MaxSource bytes.
func TestParseOfPrintAtTheBounds(t *testing.T) {
	wantBack(t, impl.Program{Nodes: slices.Repeat(one(plain("z", number(1))).Nodes, impl.MaxNodes)})
	wantBack(t, one(slices.Repeat([]impl.Equation{plain("z", truth(0))}, impl.MaxEqs)...))
	wantBack(t, one(call(slices.Repeat([]string{"z"}, impl.MaxVars), "g", slices.Repeat([]itemList{code(name("x"))}, impl.MaxVars)...)))
	wantBack(t, one(plain("z", append(code(name("x")), slices.Repeat(code(op(impl.OpNeg)), impl.MaxItems-1)...)...)))
	p := one(plain("z", number(1)))
	p.Nodes[0].Ins = slices.Repeat([]impl.Var{intVar("i")}, 100)
	p.Nodes[0].Outs = slices.Repeat([]impl.Var{boolVar("o")}, 200)
	p.Nodes[0].Vars = slices.Repeat([]impl.Var{intVar("v", slices.Repeat([]impl.Cond{on("c"), off("d")}, impl.MaxClock/2)...)}, 200)
	wantBack(t, p)
	long := strings.Repeat("L", impl.MaxName)
	wantBack(t, one(plain(long, name(long), when(long), name(long), merge(long)), call([]string{long}, long)))
}

func TestPrintLongExpressions(t *testing.T) {
	long := strings.Repeat("L", impl.MaxName)
	half := impl.MaxItems / 2
	left := code(name(long))
	for range half - 1 {
		left = append(left, name(long), op(impl.OpAdd))
	}
	right := append(slices.Repeat(code(name(long)), half), slices.Repeat(code(op(impl.OpAdd)), half-1)...)
	want := "  z = " + strings.Repeat("(", half-1) + long + strings.Repeat(" + "+long+")", half-1) + ";\n" +
		"  z = " + strings.Repeat("("+long+" + ", half-1) + long + strings.Repeat(")", half-1) + ";\n"
	text := impl.Print(one(plain("z", left...), plain("z", right...)))
	if text != "node f() returns (z: int)\nlet\n"+want+"tel\n" {
		t.Error(short(text))
	}
}
