package tests

import (
	"slices"
	"strings"
	"testing"

	"loop.example/s0043/impl"
)

// Promise 1: what Parse answers, and where it refuses.

func TestParseOrdinaryProgram(t *testing.T) {
	src := `node count(reset: bool; step: int) returns (n: int)
let n = if reset then 0 else (0 fby n) + step; tel
node main(c: bool; x: int) returns (y: int; odd: bool)
var xc: int when c; a: int when c; b: int whenot c; deep: bool when c whenot d;
let
  xc = x when c; -- only now and then
  a = count(false, xc);
  b, deep = other(-1 fby y whenot c);
  y = merge c a b;
  odd = tick();
tel`
	want := impl.Program{Nodes: []impl.Node{
		{
			Name: "count",
			Ins:  []impl.Var{boolVar("reset"), intVar("step")},
			Outs: []impl.Var{intVar("n")},
			Eqs:  []impl.Equation{plain("n", name("reset"), number(0), name("n"), fby(0), name("step"), op(impl.OpAdd), op(impl.OpIf))},
		},
		{
			Name: "main",
			Ins:  []impl.Var{boolVar("c"), intVar("x")},
			Outs: []impl.Var{intVar("y"), boolVar("odd")},
			Vars: []impl.Var{intVar("xc", on("c")), intVar("a", on("c")), intVar("b", off("c")), boolVar("deep", on("c"), off("d"))},
			Eqs: []impl.Equation{
				plain("xc", name("x"), when("c")),
				call([]string{"a"}, "count", code(truth(0)), code(name("xc"))),
				call([]string{"b", "deep"}, "other", code(name("y"), whenot("c"), fby(-1))),
				plain("y", name("a"), name("b"), merge("c")),
				call([]string{"odd"}, "tick"),
			},
		},
	}}
	if p := parsed(t, src); !sameProgram(p, want) {
		t.Errorf("%+v", p)
	}
}

func TestParseExpressions(t *testing.T) {
	cases := []struct {
		text string
		code itemList
	}{
		{"x", code(name("x"))},
		{"(((x)))", code(name("x"))},
		{"a - b + c - d", code(name("a"), name("b"), op(impl.OpSub), name("c"), op(impl.OpAdd), name("d"), op(impl.OpSub))},
		{"a - (b - c)", code(name("a"), name("b"), name("c"), op(impl.OpSub), op(impl.OpSub))},
		{"a / b * c mod d", code(name("a"), name("b"), op(impl.OpDiv), name("c"), op(impl.OpMul), name("d"), op(impl.OpMod))},
		{"a or b xor c or d", code(name("a"), name("b"), op(impl.OpOr), name("c"), op(impl.OpXor), name("d"), op(impl.OpOr))},
		{"a and b and c", code(name("a"), name("b"), op(impl.OpAnd), name("c"), op(impl.OpAnd))},
		{"a or b and c = d + e * f", code(name("a"), name("b"), name("c"), name("d"), name("e"), name("f"), op(impl.OpMul), op(impl.OpAdd), op(impl.OpEq), op(impl.OpAnd), op(impl.OpOr))},
		{"a < b and c > d", code(name("a"), name("b"), op(impl.OpLt), name("c"), name("d"), op(impl.OpGt), op(impl.OpAnd))},
		{"(a < b) < c", code(name("a"), name("b"), op(impl.OpLt), name("c"), op(impl.OpLt))},
		{"a <> b", code(name("a"), name("b"), op(impl.OpNe))},
		{"a<=b", code(name("a"), name("b"), op(impl.OpLe))},
		{"a>=b", code(name("a"), name("b"), op(impl.OpGe))},
		{"a<-b", code(name("a"), name("b"), op(impl.OpNeg), op(impl.OpLt))},
		{"a=-b", code(name("a"), name("b"), op(impl.OpNeg), op(impl.OpEq))},
		{"a- -b", code(name("a"), name("b"), op(impl.OpNeg), op(impl.OpSub))},
		{"a--b\n-c", code(name("a"), name("c"), op(impl.OpSub))},
		{"a*-b", code(name("a"), name("b"), op(impl.OpNeg), op(impl.OpMul))},
		{"- - not - x", code(name("x"), op(impl.OpNeg), op(impl.OpNot), op(impl.OpNeg), op(impl.OpNeg))},
		{"-a*b", code(name("a"), op(impl.OpNeg), name("b"), op(impl.OpMul))},
		{"not a = b", code(name("a"), op(impl.OpNot), name("b"), op(impl.OpEq))},
		{"-5", code(number(5), op(impl.OpNeg))},
		{"-5 + 2", code(number(5), op(impl.OpNeg), number(2), op(impl.OpAdd))},
		{"-5 fby 2", code(number(2), fby(-5))},
		{"-0 fby 2", code(number(2), fby(0))},
		{"- (5 fby 2)", code(number(2), fby(5), op(impl.OpNeg))},
		{"true fby false fby x", code(name("x"), fbyB(0), fbyB(1))},
		{"0 fby x + 1 when c", code(name("x"), number(1), when("c"), op(impl.OpAdd), fby(0))},
		{"(0 fby x) + 1", code(name("x"), fby(0), number(1), op(impl.OpAdd))},
		{"2147483647 fby -2147483647 fby x", code(name("x"), fby(-impl.MaxInt), fby(impl.MaxInt))},
		{"1 fby if a then 2 fby b else 3 fby c", code(name("a"), name("b"), fby(2), name("c"), fby(3), op(impl.OpIf), fby(1))},
		{"if a then b else if c then d else e + 1", code(name("a"), name("b"), name("c"), name("d"), name("e"), number(1), op(impl.OpAdd), op(impl.OpIf), op(impl.OpIf))},
		{"if if a then b else c then d else e", code(name("a"), name("b"), name("c"), op(impl.OpIf), name("d"), name("e"), op(impl.OpIf))},
		{"not x when c whenot d", code(name("x"), when("c"), whenot("d"), op(impl.OpNot))},
		{"(not x) when c", code(name("x"), op(impl.OpNot), when("c"))},
		{"5 when c", code(number(5), when("c"))},
		{"merge c true false when d", code(truth(1), truth(0), merge("c"), when("d"))},
		{"merge c merge d 1 2 merge e x (y)", code(number(1), number(2), merge("d"), name("x"), name("y"), merge("e"), merge("c"))},
		{"merge c x (0 fby y)", code(name("x"), name("y"), fby(0), merge("c"))},
		{"5when c", code(number(5), when("c"))},
		{"trues", code(name("trues"))},
		{"iF", code(name("iF"))},
		{"a1_Z", code(name("a1_Z"))},
	}
	for _, c := range cases {
		p := parsed(t, around(c.text))
		if !sameProgram(p, one(plain("z", c.code...))) {
			t.Errorf("%s: %v", c.text, p.Nodes[0].Eqs[0])
		}
		p = parsed(t, around("g(x, "+c.text+")"))
		if !sameProgram(p, one(call([]string{"z"}, "g", code(name("x")), c.code))) {
			t.Errorf("as an argument, %s: %v", c.text, p.Nodes[0].Eqs[0])
		}
	}
}

func TestParseTextsAsWritten(t *testing.T) {
	for seed := range int64(1500) {
		m := newMaker(seed)
		want := m.program()
		src, _ := m.laid(m.tokensOf(want))
		if len(src) > impl.MaxSource {
			continue
		}
		if p := parsed(t, src); !sameProgram(p, want) {
			t.Fatalf("%s\ngives %+v", src, p)
		}
	}
}

// Each pair is a text that may go on and the first token that it can't go on with.
func TestParseSyntaxOffsets(t *testing.T) {
	cases := []struct{ before, from string }{
		{"", "x"},
		{"", "tel"},
		{"node ", "node f() returns (z: int) let z = 1; tel"},
		{"node f ", "returns (z: int)"},
		{"node f(", "5"},
		{"node f(", ";"},
		{"node f(x ", "int)"},
		{"node f(x: ", "real)"},
		{"node f(x: int ", "when c)"},
		{"node f(x: int", ", y: int)"},
		{"node f(x: int; ", ")"},
		{"node f() ", "(z: int)"},
		{"node f() returns (", ")"},
		{"node f() returns (z: int;", ")"},
		{"node f() returns (z: int) ", "z = 1"},
		{"node f() returns (z: int) var ", "let z = 1; tel"},
		{"node f() returns (z: int) var u: int ", "let z = 1; tel"},
		{"node f() returns (z: int) var u: int when ", "when"},
		{"node f() returns (z: int) var u: int; ", "var v: int;"},
		{"node f() returns (z: int) let ", "tel"},
		{"node f() returns (z: int) let z ", ": 1"},
		{"node f() returns (z: int) let z, ", "= g()"},
		{"node f() returns (z: int) let x, z = ", "1; tel"},
		{"node f() returns (z: int) let x, z = g", "; tel"},
		{"node f() returns (z: int) let x, z = g ", "+ 1; tel"},
		{"node f() returns (z: int) let x, z = ", "(g()); tel"},
		{head, "; tel"},
		{head + "1 ", "tel"},
		{head + "1", ", x; tel"},
		{head + "1 ", "2; tel"},
		{head + "1", "x; tel"},
		{head + "1 + ", "if a then b else c; tel"},
		{head + "- ", "if a then b else c; tel"},
		{head + "1 + 2 ", "fby x; tel"},
		{head + "- - 2 ", "fby x; tel"},
		{head + "not true ", "fby x; tel"},
		{head + "- true ", "fby x; tel"},
		{head + "x ", "fby x; tel"},
		{head + "(5) ", "fby x; tel"},
		{head + "5 when c ", "fby x; tel"},
		{head + "(if a then b else c) ", "fby x; tel"},
		{head + "if a then b else c ", "then d; tel"},
		{head + "if a then b", "; tel"},
		{head + "if a ", "else b; tel"},
		{head + "a < b ", "< c; tel"},
		{head + "a = b ", "<> c; tel"},
		{head + "a < b + c ", ">= d; tel"},
		{head + "(a < b ", "= c); tel"},
		{head + "a < b and c < d ", "< e; tel"},
		{head + "a < ", "> b; tel"},
		{head + "g(1) ", "+ 2; tel"},
		{head + "g(1", "; tel"},
		{head + "g(1, ", "); tel"},
		{head + "g(", ", 1); tel"},
		{head + "g(g", "(1)); tel"},
		{head + "1 + g", "(1); tel"},
		{head + "(g", "(1)); tel"},
		{head + "g when c ", "(1); tel"},
		{head + "merge ", "(c) 1 2; tel"},
		{head + "merge c 1 ", "; tel"},
		{head + "merge c ", "- 1 2; tel"},
		{head + "merge c ", "not x y; tel"},
		{head + "merge c 1 2 ", "3; tel"},
		{head + "merge c x ", "when d y; tel"},
		{head + "x when ", "true; tel"},
		{head + "x when c ", "y; tel"},
		{head + "(1", "; tel"},
		{head + "1", "); tel"},
		{head + "(", "); tel"},
		{head + "1; tel ", "x"},
		{head + "1; tel ", "; node"},
		{head + "1; tel node g() returns (z: int) let z = 1; ", "node"},
	}
	for _, c := range cases {
		wantParse(t, c.before+c.from, impl.ParseSyntax, len(c.before))
		if !strings.HasSuffix(c.before, "tel ") {
			wantParse(t, c.before, impl.ParseSyntax, len(c.before))
		}
	}
}

func TestParseTooShort(t *testing.T) {
	whole := "node f(a: int) returns (z: int) var u: bool when c; let u, z = g(-1 fby a, 2); z = merge c (a) b; tel"
	parsed(t, whole)
	for i := range len(whole) {
		if i > 0 && isWord(whole[i-1]) && isWord(whole[i]) {
			continue // a word cut in two may be another token
		}
		for _, tail := range []string{"", " ", "\n\t\r ", "-- and then?", " -- and then?\n\n"} {
			if tail != "" && strings.HasSuffix(whole[:i], "-") {
				tail = " " + tail
			}
			src := whole[:i] + tail
			wantParse(t, src, impl.ParseSyntax, len(src))
		}
	}
}

func TestParseNothing(t *testing.T) {
	for _, src := range []string{"", " ", "\n", "--", "-- node f() returns (z: int) let z = 1; tel"} {
		wantParse(t, src, impl.ParseSyntax, len(src))
	}
}

// Which bytes begin a token, which separate, and which do neither.
func TestParseEveryByte(t *testing.T) {
	for b := range 256 {
		src := head + "x " + string([]byte{byte(b)}) + " y; tel"
		at := len(head) + 2
		switch {
		case b == 9 || b == 10 || b == 13 || b == 32:
			wantParse(t, src, impl.ParseSyntax, at+2)
		case strings.IndexByte("=<>+-*/", byte(b)) >= 0:
			wantParse(t, src, impl.ParseOK, 0)
		case b == ';':
			wantParse(t, src, impl.ParseSyntax, strings.LastIndex(src, ";"))
		case strings.IndexByte("():,", byte(b)) >= 0 || isWord(byte(b)) && b != '_':
			// x ( begins a call, and what follows it is refused later.
			if b == '(' {
				at = strings.LastIndex(src, ";")
			}
			wantParse(t, src, impl.ParseSyntax, at)
		default:
			wantParse(t, src, impl.ParseLex, at)
			wantParse(t, string([]byte{byte(b)}), impl.ParseLex, 0)
		}
	}
}

func TestParseLexFaults(t *testing.T) {
	cases := []struct{ before, from string }{
		{"", "$1"},
		{"", "_x"},
		{"", "."},
		{"", "\xc3\xa9"},
		{"node f() returns (z: int) let z = ", "$1; tel"},
		{"x", "'"},
		{"1", "_0"},
		{"1", ".5"},
		{"a <> ", "! b"},
		{"x ", strings.Repeat("a", impl.MaxName+1)},
		{"x ", "a" + strings.Repeat("_", impl.MaxName)},
		{"x ", strings.Repeat("a", 19000) + "#"},
		{"x ", "2147483648"},
		{"x ", "0002147483648"},
		{"- ", "2147483648"},
		{"x ", "99999999999999999999999999999999999"},
		{"x ", "18446744073709551616"},
		{"x ", "4294967296"},
		{"x ", strings.Repeat("9", 19000)},
		{"x ", "# 2147483648"},
		{"x ", "2147483648 #"},
		{"-- # 2147483648 $\n", "#"},
		{"-- # \r", ""},
	}
	for _, c := range cases {
		if c.from != "" {
			wantParse(t, c.before+c.from, impl.ParseLex, len(c.before))
		} else {
			wantParse(t, c.before, impl.ParseSyntax, len(c.before))
		}
	}
}

func TestParseLongestWordsAndNumbers(t *testing.T) {
	long := strings.Repeat("a", impl.MaxName)
	if p := parsed(t, around(long)); !sameProgram(p, one(plain("z", name(long)))) {
		t.Error(p)
	}
	wantParse(t, around(long+"a"), impl.ParseLex, len(head))
	for text, value := range map[string]int{
		"0": 0, "00": 0, "007": 7, "2147483647": impl.MaxInt, "0000000002147483647": impl.MaxInt,
		strings.Repeat("0", 15000): 0, strings.Repeat("0", 15000) + "12": 12,
	} {
		if p := parsed(t, around(text)); !sameProgram(p, one(plain("z", number(value)))) {
			t.Error(short(text), p)
		}
	}
}

func TestParseKeywordsAreNoNames(t *testing.T) {
	for _, word := range keywords {
		wantParse(t, "node "+word, impl.ParseSyntax, 5)
		wantParse(t, "node f(x: int) returns ("+word, impl.ParseSyntax, 24)
		wantParse(t, head+"merge "+word, impl.ParseSyntax, len(head)+6)
		for _, near := range []string{word + "_", word + "0", strings.ToUpper(word), word + word} {
			if p := parsed(t, around(near)); !sameProgram(p, one(plain("z", name(near)))) {
				t.Error(near, p)
			}
		}
	}
}

func TestParseComments(t *testing.T) {
	want := one(plain("z", number(1)))
	for _, src := range []string{
		"-- a\nnode f()--\nreturns(z:int)--b-- c\n\nlet z=--\xff\x00$#2147483648\n1;tel-- the end",
		"node f() returns (z: int) let z = 1; tel--",
		"node f() returns (z: int) let z = 1; tel----------",
		"--\n--\nnode f() returns (z: int) let z = 1--2\n; tel\n--\n",
		"-- \r still the comment\nnode f() returns (z: int) let z = 1; tel",
	} {
		if p := parsed(t, src); !sameProgram(p, want) {
			t.Error(src, p)
		}
	}
	wantParse(t, head+"1--; tel", impl.ParseSyntax, len(head)+8)
	wantParse(t, head+"1 - - -; tel", impl.ParseSyntax, len(head)+7)
}

func TestParseOrderOfFaults(t *testing.T) {
	many := head + "1; " + strings.Repeat("z=1;", impl.MaxEqs)
	wantParse(t, many+"tel", impl.ParseMany, 0)
	wantParse(t, many+"tel tel", impl.ParseSyntax, len(many)+4)
	wantParse(t, many, impl.ParseSyntax, len(many))
	wantParse(t, many+"tel tel #", impl.ParseLex, len(many)+8)
	wantParse(t, "tel "+many+"#", impl.ParseLex, len(many)+4)
	wantParse(t, "# tel "+many+strings.Repeat(" ", impl.MaxSource), impl.ParseLong, 0)
	wantParse(t, strings.Repeat("#", impl.MaxSource+1), impl.ParseLong, 0)
	wantParse(t, strings.Repeat("#", impl.MaxSource), impl.ParseLex, 0)
	wantParse(t, strings.Repeat("9", impl.MaxSource+1), impl.ParseLong, 0)
}

func TestParseLength(t *testing.T) {
	src := around("1")
	fill := impl.MaxSource - len(src)
	wantParse(t, src+strings.Repeat(" ", fill), impl.ParseOK, 0)
	wantParse(t, src+strings.Repeat(" ", fill+1), impl.ParseLong, 0)
	wantParse(t, src+"--"+strings.Repeat("#", fill-2), impl.ParseOK, 0)
	wantParse(t, strings.Repeat(" ", fill)+src, impl.ParseOK, 0)
	wantParse(t, strings.Repeat(" ", fill-1)+src+";", impl.ParseSyntax, impl.MaxSource-1)
}

// Each bound of 1.5, met and passed by one.
func TestParseBounds(t *testing.T) {
	times := strings.Repeat
	node := "node f()returns(z:int)let z=1;tel "
	decl := func(ins, outs, vars int) string {
		src := "node f(" + strings.TrimSuffix(times("x:int;", ins), ";") + ") returns (" + strings.TrimSuffix(times("x:int;", outs), ";") + ") "
		if vars > 0 {
			src += "var " + times("x:int;", vars)
		}
		return src + "let z=1; tel"
	}
	lhs := func(n int) string { return "node f() returns (z: int) let z" + times(",z", n-1) + "=g(); tel" }
	clock := func(n int) string {
		return "node f() returns (z: int) var u: bool;v: int" + times(" when c whenot d", n/2) + times(" when e", n%2) + "; let z = 1; tel"
	}
	cases := []struct{ met, passed string }{
		{times(node, impl.MaxNodes), times(node, impl.MaxNodes+1)},
		{decl(impl.MaxVars-1, 1, 0), decl(impl.MaxVars, 1, 0)},
		{decl(0, impl.MaxVars, 0), decl(0, impl.MaxVars+1, 0)},
		{decl(0, 1, impl.MaxVars-1), decl(0, 1, impl.MaxVars)},
		{decl(200, 200, 100), decl(200, 200, 101)},
		{around(times("1;z=", impl.MaxEqs-1) + "1"), around(times("1;z=", impl.MaxEqs) + "1")},
		{lhs(impl.MaxVars), lhs(impl.MaxVars + 1)},
		{around("g(1" + times(",1", impl.MaxVars-1) + ")"), around("g(1" + times(",1", impl.MaxVars) + ")")},
		{clock(impl.MaxClock), clock(impl.MaxClock + 1)},
		{around("-1" + times("+1", impl.MaxItems/2-1)), around("- -1" + times("+1", impl.MaxItems/2-1))},
		{around(times("- ", impl.MaxItems-1) + "1"), around(times("- ", impl.MaxItems) + "1")},
		{around("g(2,-1" + times("+1", impl.MaxItems/2-1) + ")"), around("g(2,1" + times("+1", impl.MaxItems/2) + ")")},
		{around(times("x when c+", impl.MaxItems/3-1) + "x when c when d"), around(times("x when c+", impl.MaxItems/3-1) + "-x when c when d")},
	}
	for _, c := range cases {
		wantParse(t, c.met, impl.ParseOK, 0)
		wantParse(t, c.passed, impl.ParseMany, 0)
		// A bound that one node passes is passed wherever that node stands.
		wantParse(t, c.passed+" "+node, impl.ParseMany, 0)
	}
}

// Parentheses leave no items: only the length of the text bounds them.
func TestParseDeepTexts(t *testing.T) {
	fill := impl.MaxSource - len(around("1"))
	deep := strings.Repeat("(", fill/2) + "1" + strings.Repeat(")", fill/2)
	if p := parsed(t, around(deep)); !sameProgram(p, one(plain("z", number(1)))) {
		t.Error(p)
	}
	wantParse(t, around(deep[1:]), impl.ParseSyntax, len(head)+len(deep)-2)
	wantParse(t, around(deep[:len(deep)-1]), impl.ParseSyntax, len(head)+len(deep)-1)
	for _, open := range []string{"(", "- ", "not ", "if ", "0 fby ", "merge c ", "merge c 1 ", "1+(", "(if a then b else "} {
		src := head + strings.Repeat(open, (impl.MaxSource-len(head))/len(open))
		wantParse(t, src, impl.ParseSyntax, len(src))
	}
	nots := strings.Repeat("not ", impl.MaxItems-1) + "true"
	want := append(code(truth(1)), slices.Repeat(code(op(impl.OpNot)), impl.MaxItems-1)...)
	if p := parsed(t, around(nots)); !sameProgram(p, one(plain("z", want...))) {
		t.Error("a long row of signs")
	}
	right := strings.Repeat("1-(", 1499) + "1" + strings.Repeat(")", 1499)
	want = append(slices.Repeat(code(number(1)), 1500), slices.Repeat(code(op(impl.OpSub)), 1499)...)
	if p := parsed(t, around(right)); !sameProgram(p, one(plain("z", want...))) {
		t.Error("a right-deep row of operators")
	}
}

// Any bytes at all get one of the five codes, an offset within the text, and no program beside a fault.
func TestParseAnyBytes(t *testing.T) {
	pieces := append(allTokens(), " ", "\n", "--", "$1", "#", "\x00", "2147483648", "_", strings.Repeat("w", 41))
	for seed := range int64(3000) {
		m := newMaker(seed)
		src := strings.Join(several(m, 0, 30, func() string {
			if m.Intn(40) == 0 {
				return string([]byte{byte(m.Intn(256))})
			}
			return pick(m, pieces)
		}), pick(m, []string{"", " "}))
		p, code, at := impl.Parse(src)
		if code < impl.ParseOK || code > impl.ParseMany || at < 0 || at > len(src) || (code == impl.ParseOK) != impl.ShapeOK(p) {
			t.Fatalf("%q: code %d at %d", src, code, at)
		}
	}
}
