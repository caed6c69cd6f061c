package tests

import (
	"slices"
	"strconv"
	"strings"
	"testing"

	"loop.example/s0043/impl"
)

// Promise 12: Compile.

// example is the document's.
const example = `node count(reset: bool; step: int) returns (n: int)
let n = if reset then 0 else (0 fby n) + step; tel
node main(c: bool; x: int) returns (y: int)
var xc: int when c; a: int when c; b: int whenot c;
let
  xc = x when c;
  a = count(false, xc);
  b = (0 fby y) whenot c;
  y = merge c a b;
tel
`

const countText = `class count
in reset bool
in step int
out n int
loc $1
mem 0
set $1 : @0
set n : .reset 0 .$1 .step + ?
save 0 : .n
endclass
`

const mainText = `class main
in c bool
in x int
out y int
loc xc
loc a
loc b
loc $1
mem 0
use count
if c
set xc : .x
call 0 a : false , .xc
else
end
set $1 : @0
if c
else
set b : .$1
end
set y : .c .a .b ?
save 0 : .y
endclass
`

func wantCompiled(t *testing.T, src, name, text string) {
	t.Helper()
	got, code, at := impl.Compile(src, name)
	if got != text || code != impl.CompileOK || at != 0 {
		t.Errorf("%q of %q: code %d at %d, and\n%s\nasked for\n%s", name, short(src), code, at, got, text)
	}
	m, read := impl.ReadMachine(got)
	if read != impl.ReadOK || !fits(m) || m.Classes[len(m.Classes)-1].Name != name {
		t.Errorf("%q of %q: ReadMachine answers %d", name, short(src), read)
	}
}

func wantNotCompiled(t *testing.T, src, name string, code, at int) {
	t.Helper()
	text, gotCode, gotAt := impl.Compile(src, name)
	if text != "" || gotCode != code || gotAt != at {
		t.Errorf("%q of %q: code %d at %d, asked for %d at %d; text %q", name, short(src), gotCode, gotAt, code, at, short(text))
	}
	want := "compile " + strconv.Itoa(code) + " " + strconv.Itoa(at) + "\n"
	for _, script := range []string{"", "t 1\n", "bad bad bad"} {
		if got := impl.Eval(src, name, script); got != want {
			t.Errorf("Eval of %q of %q with %q: %q, asked for %q", name, short(src), short(script), got, want)
		}
	}
}

// wantCompiledAgain asks for what the second reading gives, and tells the code.
func wantCompiledAgain(t *testing.T, src, name string) int {
	t.Helper()
	text, code, at := compiledAgain(src, name)
	if code == impl.CompileOK {
		wantCompiled(t, src, name, text)
	} else {
		wantNotCompiled(t, src, name, code, at)
	}
	return code
}

func TestCompileExample(t *testing.T) {
	wantCompiled(t, example, "count", countText)
	wantCompiled(t, example, "main", countText+mainText)
}

func TestCompileCutsOff(t *testing.T) {
	src, want := "", ""
	for i := range 5 {
		n := strconv.Itoa(i)
		src += "node n" + n + "() returns (z: int) let z = " + n + "; tel "
	}
	for i := range 5 {
		n := strconv.Itoa(i)
		want += "class n" + n + "\nout z int\nset z : " + n + "\nendclass\n"
		wantCompiled(t, src, "n"+n, want)
	}
	// The classes ahead stay, whether they are called or not; those behind go, though they call.
	src = "node in() returns (out: bool) let out = true; tel node class() returns (mem: bool) let mem = in(); tel node set() returns (use: bool) let use = class(); tel"
	first := "class in\nout out bool\nset out : true\nendclass\n"
	second := "class class\nout mem bool\nuse in\ncall 0 mem :\nendclass\n"
	wantCompiled(t, src, "in", first)
	wantCompiled(t, src, "class", first+second)
	wantCompiled(t, src, "set", first+second+"class set\nout use bool\nuse class\ncall 0 use :\nendclass\n")
}

func TestCompileFuses(t *testing.T) {
	src := "node f(c: bool) returns (z: int) var u: int when c; v: int whenot c; let u = 1; v = 2; z = merge c u v; tel"
	wantCompiled(t, src, "f", "class f\nin c bool\nout z int\nloc u\nloc v\nif c\nset u : 1\nelse\nset v : 2\nend\nset z : .c .u .v ?\nendclass\n")
}

func TestCompileParseFaults(t *testing.T) {
	good := around("1")
	long := good + strings.Repeat(" ", impl.MaxSource-len(good))
	cases := []struct {
		src string
		at  int
	}{
		{"", 0}, {" ", 1}, {"node", 4}, {"node f", 6}, {"\n\nnode f() returns", 18}, {"nod", 0}, {" nod", 1}, {"(", 0},
		{around("#"), len(head)}, {around("1 2"), len(head) + 2}, {around(""), len(head)}, {good + " node", len(good) + 5}, {good + " x", len(good) + 1},
		{"\x00", 0}, {"\xff\xfe", 0}, {good + "\x80", len(good)}, {good + " $1", len(good) + 1}, {"-- only a comment", 17},
		{around("2147483648"), len(head)}, {around("1 + " + strings.Repeat("a", impl.MaxName+1)), len(head) + 4},
		// The lexical fault comes first, however late it stands.
		{"tel " + around("#"), 4 + len(head)},
		// Too long, with faults at other places.
		{long + " ", 0}, {long + "#", 0}, {strings.Repeat(" ", impl.MaxSource) + "#", 0}, {"x" + strings.Repeat("#", impl.MaxSource), 0},
		// As long as may be.
		{long[:impl.MaxSource-1] + "#", impl.MaxSource - 1}, {strings.Repeat(" ", impl.MaxSource), impl.MaxSource},
		// Too many.
		{tooManyNodes(), 0}, {tooManyInputs(), 0},
	}
	for _, c := range cases {
		for _, name := range []string{"f", "q", ""} {
			wantNotCompiled(t, c.src, name, impl.CompileParse, c.at)
		}
	}
	wantCompiled(t, long, "f", "class f\nout z int\nset z : 1\nendclass\n")
}

func tooManyNodes() string {
	src := ""
	for i := range impl.MaxNodes + 1 {
		src += "node f" + strconv.Itoa(i) + "() returns (z: int) let z = 1; tel "
	}
	return src
}

// tooManyInputs stands in the second node; the first one has a fault of its own.
func tooManyInputs() string {
	src := around("true")
	src += " node g("
	for i := range impl.MaxVars {
		src += "a" + strconv.Itoa(i) + ": int; "
	}
	return src + "b: int) returns (z: int) let z = 1; tel"
}

func TestCompileCheckFaults(t *testing.T) {
	good, other := around("1"), "node a() returns (z: int) let z = 1; tel"
	ins := "node f(c: bool; x: int) returns (z: int) "
	cases := []struct {
		src  string
		code int
	}{
		{good + " " + good, impl.CheckName}, {ins + "var x: int; let z = x; tel", impl.CheckName},
		{ins + "var u: int when x; let z = 1; u = 2; tel", impl.CheckDecl}, {ins + "var u: int when q; let z = 1; u = 2; tel", impl.CheckDecl},
		{ins + "let x = 1; tel", impl.CheckDef}, {ins + "let z = 1; z = 1; tel", impl.CheckDef}, {ins + "var u: int; let z = 1; tel", impl.CheckDef},
		{around("f()"), impl.CheckCall}, {around("g()"), impl.CheckCall},
		{around("true"), impl.CheckType}, {around("q"), impl.CheckType}, {around("1 + true"), impl.CheckType},
		{ins + "let z = x when c; tel", impl.CheckClock}, {ins + "var u: int when c; let u = 1; z = u; tel", impl.CheckClock},
		{around("z"), impl.CheckCycle}, {around("z + (0 fby z)"), impl.CheckCycle},
		{around(strings.TrimSuffix(strings.Repeat("(0 fby 1) + ", impl.MaxEqs), " + ")), impl.CheckWeight},
		{tooHeavy(), impl.CheckWeight},
	}
	for _, c := range cases {
		// No such node is told only of programs that pass.
		for _, name := range []string{"f", "q", ""} {
			wantNotCompiled(t, c.src, name, impl.CompileCheck, c.code)
		}
		// A fault in a node behind or before the one that is asked for is one, too.
		wantNotCompiled(t, other+" "+c.src, "a", impl.CompileCheck, c.code)
		wantNotCompiled(t, c.src+" "+other, "a", impl.CompileCheck, c.code)
		// The text is refused first.
		wantNotCompiled(t, c.src+"#", "f", impl.CompileParse, len(c.src))
		wantNotCompiled(t, c.src+" node", "q", impl.CompileParse, len(c.src)+5)
	}
}

// tooHeavy has nodes that call the one before twice.
func tooHeavy() string {
	src := "node n0() returns (z: int) let z = 1; tel "
	for i := range 11 {
		call := "n" + strconv.Itoa(i) + "()"
		src += "node n" + strconv.Itoa(i+1) + "() returns (z: int) var a: int; b: int; let a = " + call + "; b = " + call + "; z = a + b; tel "
	}
	return src
}

func TestCompileNames(t *testing.T) {
	for _, name := range []string{
		"", "q", "f", "Main", "mai", "mainx", " main", "main ", "main\n", "c", "xc", "$1", "node", "class main", "count\nin reset bool",
		"main\x00", "\xff", strings.Repeat("n", 100000),
	} {
		wantNotCompiled(t, example, name, impl.CompileName, 0)
	}
}

func TestCompileAtRandom(t *testing.T) {
	for seed := range int64(1500) {
		m := newMaker(seed)
		p := withoutFreshNames(t, passing(seed))
		src := m.sourceOf(p)
		for _, n := range p.Nodes {
			if code := wantCompiledAgain(t, src, n.Name); code != impl.CompileOK {
				t.Fatalf("seed %d: code %d", seed, code)
			}
		}
		wantNotCompiled(t, src, pick(m, []string{"q", "", "v1", "n9"}), impl.CompileName, 0)
	}
}

func TestCompileDamagedPrograms(t *testing.T) {
	count := map[int]int{}
	for seed := range int64(1500) {
		m := newMaker(seed)
		p := m.damaged(withoutFreshNames(t, passing(seed)), 1+m.Intn(2))
		name := pick(m, []string{"n0", "n0", "n1", "q"})
		src := impl.Print(p)
		if m.Intn(4) == 0 {
			src = m.changedSource(src)
		}
		count[wantCompiledAgain(t, src, name)]++
	}
	for code := impl.CompileOK; code <= impl.CompileName; code++ {
		if count[code] < 50 {
			t.Error("too few of a kind", count)
		}
	}
}

// changedSource leaves a piece out, or puts one in.
func (m maker) changedSource(src string) string {
	at := m.Intn(len(src) + 1)
	if m.Intn(2) == 0 {
		return src[:at] + pick(m, []string{"#", "(", ")", "fby", " x ", "\xff", "--", "=", "tel", "1", "\n", "when c"}) + src[at:]
	}
	end := min(len(src), at+1+m.Intn(5))
	return src[:at] + src[end:]
}

func TestCompileAnyStrings(t *testing.T) {
	strange := []string{"", "\x00", "\n", " ", "\xff\xff", "f", "node", "--", "#", "\xe2\x82", around("1"), example, "2147483648", "$1"}
	for _, src := range strange {
		for _, name := range strange {
			wantCompiledAgain(t, src, name)
		}
	}
	words := slices.Concat(keywords, symbols, []string{"f", "x", "0", "5"})
	for seed := range int64(2000) {
		m := newMaker(seed)
		var pieces []string
		for _, w := range words {
			pieces = append(pieces, w, " ")
		}
		wantCompiledAgain(t, m.junk(pieces, 60), m.junk([]string{"f", "x", "n0"}, 2))
	}
}

func TestCompileAtTheLimits(t *testing.T) {
	full := ""
	for i := range impl.MaxNodes {
		full += "node n" + strconv.Itoa(i) + "(x: int) returns (z: int) let z = "
		if i == 0 {
			full += "x; tel "
		} else {
			full += "n" + strconv.Itoa(i-1) + "(x); tel "
		}
	}
	for _, k := range []int{0, 1, 100, impl.MaxNodes - 1} {
		text, code, _ := impl.Compile(full, "n"+strconv.Itoa(k))
		m, read := impl.ReadMachine(text)
		if code != impl.CompileOK || read != impl.ReadOK || len(m.Classes) != k+1 {
			t.Error(k, code, read, len(m.Classes))
		}
	}
	deep := deepNode("(0 fby u) + (1 fby x CLOCK)")
	wantCompiledAgain(t, deep, "f")
	long := around(strings.TrimSuffix(strings.Repeat("1+", 1500), "+"))
	wantCompiledAgain(t, long, "f")
	wantCompiledAgain(t, around(strings.Repeat("(", 9000)+"1"+strings.Repeat(")", 9000)), "f")
}
