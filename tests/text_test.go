package tests

import (
	"math"
	"slices"
	"strconv"
	"strings"
	"testing"

	"loop.example/s0043/impl"
)

// Promise 11: PrintMachine and ReadMachine.

func wantRead(t *testing.T, text string, m impl.Machine) {
	t.Helper()
	got, code := impl.ReadMachine(text)
	if code != impl.ReadOK || !sameMachine(got, m) {
		t.Errorf("code %d: %+v from\n%s", code, got, short(text))
	}
}

func wantReadBad(t *testing.T, what any, text string) {
	t.Helper()
	m, code := impl.ReadMachine(text)
	if code != impl.ReadBad || len(m.Classes) != 0 {
		t.Errorf("%v: code %d with %d classes from\n%q", what, code, len(m.Classes), short(text))
	}
}

func wantText(t *testing.T, m impl.Machine, text string) {
	t.Helper()
	if got := impl.PrintMachine(m); got != text {
		t.Errorf("printed\n%s\nasked for\n%s", short(got), short(text))
	}
	wantRead(t, text, m)
}

// everything is a machine with all lines and all items in it.
func everything() impl.Machine {
	items := code(name("i"), mem(1), number(0), number(impl.MaxInt), truth(1), truth(0), name("$1"))
	for range len(items) - 1 {
		items = append(items, op(impl.OpAdd))
	}
	body := stms(set("o", items...), save(1, name("c")))
	for o := impl.OpNeg; o <= impl.OpIf; o++ {
		body = append(body, set("l", applied(op(o))...))
	}
	body = append(body, branches("c", stms(invoke(1, []string{"p", "$1"}, code(name("o"), op(impl.OpNeg)))), nil)...)
	return machine(leaf(), owner(body...))
}

const everythingText = `class leaf
in x int
out y int
out b bool
mem 7
set y : @0 .x +
set b : .x 0 >
save 0 : .y
endclass
class owner
in i int
in c bool
out o int
out p int
loc l
loc $1
mem 3
mem -4
use leaf
use leaf
set o : .i @1 0 2147483647 true false .$1 + + + + + +
save 1 : .c
set l : 1 neg
set l : 1 not
set l : 1 1 +
set l : 1 1 -
set l : 1 1 *
set l : 1 1 /
set l : 1 1 mod
set l : 1 1 =
set l : 1 1 <>
set l : 1 1 <
set l : 1 1 <=
set l : 1 1 >
set l : 1 1 >=
set l : 1 1 and
set l : 1 1 or
set l : 1 1 xor
set l : 1 1 1 ?
if c
call 1 p $1 : .o neg
else
end
endclass
`

func TestTextOfEverything(t *testing.T) {
	wantText(t, everything(), everythingText)
}

func TestTexts(t *testing.T) {
	wantText(t, machine(setting("k", 0)), "class k\nout o int\nendclass\n")
	wantText(t, machine(setting("a", 0), repeating("b", 0, 1, 0)), "class a\nout o int\nendclass\nclass b\nout o int\nuse a\ncall 0 o :\nendclass\n")
	two := impl.Class{Name: "two", Ins: []impl.Slot{slot("x"), slot("y")}, Outs: []impl.Slot{slot("o")}}
	user := setting("user", 0)
	user.Insts = []int{0}
	user.Body = stms(invoke(0, []string{"o"}, code(number(1), op(impl.OpNeg)), code(name("o"))))
	wantText(t, machine(two, user),
		"class two\nin x int\nin y int\nout o int\nendclass\nclass user\nout o int\nuse two\ncall 0 o : 1 neg , .o\nendclass\n")
	ends := machine(setting("k", 0))
	ends.Classes[0].Mems = []int{math.MinInt32, math.MaxInt32, 0, -1}
	wantText(t, ends, "class k\nout o int\nmem -2147483648\nmem 2147483647\nmem 0\nmem -1\nendclass\n")
	// Words of the text as names.
	words := machine(impl.Class{Name: "class", Ins: []impl.Slot{slot("in")}, Outs: []impl.Slot{slot("out")}, Locs: []string{"endclass", "neg", "set"},
		Body: stms(set("neg", name("neg"), op(impl.OpNeg)), set("set", name("endclass")))})
	wantText(t, words, "class class\nin in int\nout out int\nloc endclass\nloc neg\nloc set\nset neg : .neg neg\nset set : .endclass\nendclass\n")
	long := machine(setting(strings.Repeat("n", impl.MaxName), 0))
	wantText(t, long, "class "+strings.Repeat("n", impl.MaxName)+"\nout o int\nendclass\n")
	// The number of a cell or an instance may have several digits.
	many := machine(setting("k", 0), keeping("l", 12, 0, 11))
	many.Classes[1].Body = stms(save(11, mem(10)), invoke(10, []string{"o"}))
	lines := "class l\nout o int\n" + strings.Repeat("mem 0\n", 12) + strings.Repeat("use k\n", 11) + "save 11 : @10\ncall 10 o :\nendclass\n"
	wantText(t, many, "class k\nout o int\nendclass\n"+lines)
}

func TestReadOfPrint(t *testing.T) {
	for seed := range int64(3000) {
		m := newMaker(seed).machine()
		text := impl.PrintMachine(m)
		wantRead(t, text, m)
		if second, ok := readText(text); !ok || !sameMachine(second, m) {
			t.Fatalf("another machine by the second reading:\n%s", text)
		}
	}
}

func TestReadOfPrintAtTheLimits(t *testing.T) {
	machines := []impl.Machine{
		machine(setting("k", impl.MaxStms)),
		machine(keeping("a", impl.MaxSlots, 0, 0), keeping("b", 0, 0, 20)),
		machine(doubling(setting("k0", 0), 18)...),
		computing(append(code(number(1)), slices.Repeat(code(op(impl.OpNot)), impl.MaxCode-1)...)...),
		owning(nested(impl.MaxNest, stms(set("o", number(1))))...),
		machine(impl.Class{Name: "k", Ins: numbered("i", 500), Outs: numbered("o", 500)}),
	}
	for _, m := range machines {
		wantRead(t, impl.PrintMachine(m), m)
	}
	// One more of each.
	wantReadBad(t, "statements", strings.Replace(impl.PrintMachine(machines[0]), "set", "set o : 1\nset", 1))
	wantReadBad(t, "Mems", strings.Replace(impl.PrintMachine(machines[1]), "mem", "mem 1\nmem", 1))
	wantReadBad(t, "Cells", strings.Replace(impl.PrintMachine(machines[1]), "use", "mem 1\nuse", 1))
	wantReadBad(t, "Code", strings.Replace(impl.PrintMachine(machines[3]), "not", "not not", 1))
	wantReadBad(t, "nesting", strings.Replace(impl.PrintMachine(machines[4]), "set o : 1", "if c\nset o : 1\nelse\nend", 1))
	wantReadBad(t, "slots", strings.Replace(impl.PrintMachine(machines[5]), "in i0 int", "in j int\nin i0 int", 1))
}

// wantSameReading holds ReadMachine against the second reading.
func wantSameReading(t *testing.T, text string) bool {
	t.Helper()
	m, code := impl.ReadMachine(text)
	second, ok := readText(text)
	switch {
	case ok != (code == impl.ReadOK):
		t.Errorf("code %d, second reading %v of\n%q", code, ok, text)
	case ok && (!sameMachine(m, second) || impl.PrintMachine(m) != text):
		t.Errorf("another machine by the second reading of\n%q", text)
	case !ok && len(m.Classes) != 0:
		t.Errorf("a machine from\n%q", text)
	}
	return ok
}

func TestReadOfChangedBytes(t *testing.T) {
	text := everythingText
	bytes := []string{"", " ", "\n", "\t", "\r", "0", "1", "-", "+", ".", "@", ":", ",", "x", "$", "_", "\x00", "\xff"}
	for i := range len(text) {
		for _, b := range bytes {
			wantSameReading(t, text[:i]+b+text[i+1:])
			wantSameReading(t, text[:i]+b+text[i:])
		}
		wantSameReading(t, text[:i])
		wantSameReading(t, text[i:])
	}
	wantReadBad(t, "the last byte is missing", text[:len(text)-1])
	wantReadBad(t, "a byte 10 behind", text+"\n")
	wantReadBad(t, "a byte 0 behind", text+"\x00")
}

func TestReadOfChangedParts(t *testing.T) {
	lines := strings.SplitAfter(everythingText, "\n")
	parts := strings.Fields("class in out loc mem use set save call if else end endclass int bool : , .i .q @0 @2 0 1 -1 o q $1 leaf true neg ? +")
	good := 0
	for i, line := range lines[:len(lines)-1] {
		words := strings.Fields(line)
		try := func(changed ...string) {
			text := strings.Join(lines[:i], "") + strings.Join(changed, " ") + "\n" + strings.Join(lines[i+1:], "")
			if wantSameReading(t, text) {
				good++
			}
		}
		for k := range words {
			for _, part := range parts {
				try(slices.Replace(slices.Clone(words), k, k+1, part)...)
				try(slices.Insert(slices.Clone(words), k, part)...)
			}
			try(slices.Delete(slices.Clone(words), k, k+1)...)
		}
		try(append(words, "")...)
		try(append([]string{""}, words...)...)
	}
	if good < 100 {
		t.Error("hardly a changed text was right", good)
	}
}

func TestReadOfChangedLines(t *testing.T) {
	lines := strings.SplitAfter(everythingText, "\n")
	lines = lines[:len(lines)-1]
	for i := range lines {
		wantSameReading(t, strings.Join(slices.Delete(slices.Clone(lines), i, i+1), ""))
		wantSameReading(t, strings.Join(slices.Insert(slices.Clone(lines), i, "\n"), ""))
		for k := range lines {
			moved := slices.Insert(slices.Delete(slices.Clone(lines), i, i+1), min(k, len(lines)-1), lines[i])
			wantSameReading(t, strings.Join(moved, ""))
			wantSameReading(t, strings.Join(slices.Insert(slices.Clone(lines), k, lines[i]), ""))
		}
	}
}

func TestReadOfChangedTexts(t *testing.T) {
	count := map[bool]int{}
	for seed := range int64(5000) {
		m := newMaker(seed)
		text := m.changedText(impl.PrintMachine(m.machine()))
		count[wantSameReading(t, text)]++
	}
	if count[true] < 400 || count[false] < 400 {
		t.Error("too few of a kind", count)
	}
}

// changedText changes a line or a part of one.
func (m maker) changedText(text string) string {
	lines := strings.SplitAfter(text, "\n")
	lines = lines[:len(lines)-1]
	i, j := m.Intn(len(lines)), m.Intn(len(lines))
	switch m.Intn(5) {
	case 0:
		lines[i], lines[j] = lines[j], lines[i]
	case 1:
		lines = slices.Delete(lines, i, i+1)
	case 2:
		lines = slices.Insert(lines, i, lines[j])
	default:
		words, others := strings.Split(lines[i], " "), strings.Fields(lines[j])
		words[m.Intn(len(words))] = pick(m, others)
		lines[i] = strings.TrimSuffix(strings.Join(words, " "), "\n") + "\n"
	}
	return strings.Join(lines, "")
}

func TestReadOfAnyBytes(t *testing.T) {
	for _, text := range []string{
		"", "\n", "\n\n", " ", "class", "class\n", "class \n", "endclass\n", "class k\nendclass\n", "class k\nout o int\n", "set o : 1\n",
		"in\n", "class k\nin\nout\nloc\nmem\nuse\nset\nsave\ncall\nif\nelse\nend\nendclass\n", "class k\nout o int\ncall\nendclass\n",
		"class k\nout o int\ncall :\nendclass\n", "class k\nout o int\ncall 0 : :\nendclass\n", "class k\nout o int\nset o\nendclass\n",
		"class k\nout o int\nset o :\nendclass\n", "class k\nout o int\nset o : \nendclass\n", "\x00", "\xff\n", "node f() returns (z: int) let z = 1; tel",
	} {
		wantReadBad(t, text, text)
	}
	for seed := range int64(2000) {
		m := newMaker(seed)
		pieces := strings.Fields("class in out loc mem use set save call if else end endclass int bool : , .o @0 0 1 o k")
		text := strings.Join(several(m, 0, 20, func() string { return pick(m, pieces) + pick(m, []string{" ", "\n", "\n", ""}) }), "")
		wantSameReading(t, text)
	}
}

// numberTexts gives texts with a number at every place where one stands.
func numberTexts(number string) []string {
	lines := "class l\nout o int\n" + strings.Repeat("mem 0\n", 8) + strings.Repeat("use k\n", 8)
	front := "class k\nout o int\nendclass\n" + lines
	return []string{
		front + "set o : " + number + "\nendclass\n",
		front + "set o : @" + number + "\nendclass\n",
		front + "save " + number + " : 1\nendclass\n",
		front + "call " + number + " o :\nendclass\n",
		"class k\nout o int\nmem " + number + "\nendclass\n",
	}
}

func TestReadOfNumbers(t *testing.T) {
	for _, n := range []string{"0", "1", "7"} {
		for i, text := range numberTexts(n) {
			if _, code := impl.ReadMachine(text); code != impl.ReadOK {
				t.Error(i, n)
			}
		}
	}
	for _, n := range []string{
		"", "00", "01", "-0", "+1", "+0", "1.", "1.0", "0x1", "1_0", "1e1", "--1", "-", "x", "١", "2147483648", "-2147483649",
		"4294967296", "4294967297", "9223372036854775807", "9223372036854775808", "18446744073709551616", "-9223372036854775809",
		"340282366920938463463374607431768211457", strings.Repeat("1", 10000), "1\r", "1\t", "\v1", "1 ", " 1", "1\x00",
	} {
		for i, text := range numberTexts(n) {
			wantReadBad(t, []any{i, n}, text)
		}
	}
	for _, n := range []int{8, 9, -1, impl.MaxInt, -impl.MaxInt, -impl.MaxInt - 1} {
		for i, text := range numberTexts(strconv.Itoa(n)) {
			good := i == 4 || i == 0 && n >= 0
			if _, code := impl.ReadMachine(text); (code == impl.ReadOK) != good {
				t.Error(i, n, code)
			}
		}
	}
}

func TestReadOfClassNames(t *testing.T) {
	class := func(name, use string) string {
		if use != "" {
			use = "use " + use + "\n"
		}
		return "class " + name + "\nout o int\n" + use + "endclass\n"
	}
	for _, s := range []string{"a", "b"} {
		text := class("a", "") + class("b", "") + class("c", s)
		m, code := impl.ReadMachine(text)
		if code != impl.ReadOK || !slices.Equal(m.Classes[2].Insts, []int{strings.Index("ab", s)}) {
			t.Error(s, code)
		}
	}
	for what, text := range map[string]string{
		"no such class":       class("a", "") + class("b", "q"),
		"itself":              class("a", "") + class("b", "b"),
		"the first by itself": class("a", "a"),
		"one behind":          class("a", "") + class("b", "c") + class("c", ""),
		"the last":            class("a", "c") + class("b", "") + class("c", ""),
		"two alike":           class("a", "") + class("b", "") + class("a", ""),
		"two alike, used":     class("a", "") + class("a", "") + class("b", "a"),
		"an index":            class("a", "") + class("b", "0"),
		"a keyword":           class("node", ""),
		"another case":        class("a", "") + class("b", "A"),
		"too long":            class(strings.Repeat("n", impl.MaxName+1), ""),
	} {
		wantReadBad(t, what, text)
	}
}
