package tests

import (
	"slices"
	"strconv"
	"strings"
	"testing"

	"loop.example/s0043/impl"
)

// Promise 14: the lines of Play and Eval.

const (
	echoInt  = "node f(x: int) returns (y: int) let y = x; tel"
	echoBool = "node f(x: bool) returns (y: bool) let y = x; tel"
	echoBoth = "node f(x: int; b: bool) returns (y: int; c: bool) let y = x; c = b; tel"
	tick     = "node f() returns (y: int) let y = 1 fby y + 1; tel"
)

// badAt is the answer to a script that is bad at a line.
func badAt(line int) string {
	return "script " + strconv.Itoa(line) + "\n"
}

func TestScriptLines(t *testing.T) {
	for script, want := range map[string]string{
		"": "", "\n": "", "\n\n\n": "",
		"5": "5\n", "5\n": "5\n", "5\n\n": "5\n", "\n5": "5\n", "\n\n5\n": "5\n", "5\n6": "5\n6\n", "5\n6\n": "5\n6\n",
		"\n\n5\n\n\n6\n\n": "5\n6\n", "5\n\n\n\n6": "5\n6\n",
		"x": badAt(1), "x\n": badAt(1), "\nx": badAt(2), "\n\n\nx\n": badAt(4), "5\nx": badAt(2), "5\nx\n6\n": badAt(2),
		"5\n\nx\n": badAt(3), "5\nx\ny\nz": badAt(2), "x\n5\ny": badAt(1), "5\n6\n7\n8\nx": badAt(5), "5\n6\n7\n8\n\n\nx\n\n": badAt(7),
		"5\r\n": badAt(1), "\r": badAt(1), "\r\n": badAt(1), "5\n\r\n": badAt(2), "5\r6": badAt(1), "\r\n5": badAt(1), "5\n\r": badAt(2),
		" ": badAt(1), "\n ": badAt(2), "5 ": badAt(1), " 5": badAt(1), "5 \n6": badAt(1), "5\n 6": badAt(2), "  ": badAt(1),
		"\t": badAt(1), "5\t": badAt(1), "\x00": badAt(1), "5\x00": badAt(1), "\xff": badAt(1), "\v5": badAt(1), "5\f": badAt(1), "\u20285": badAt(1),
		"5 6": badAt(1), "5  6": badAt(1), ".": badAt(1), "5\n.": badAt(2),
	} {
		wantAnswer(t, echoInt, "f", script, want)
	}
}

func TestScriptInts(t *testing.T) {
	for field, want := range map[string]string{
		"0": "0", "1": "1", "9": "9", "10": "10", "-1": "-1", "-10": "-10", "-0": "0", "00": "0", "-00": "0", "007": "7", "-007": "-7",
		"0000000000": "0", "-0000000000": "0", "0000000007": "7", "-0000000007": "-7", "1234567890": "1234567890", "-1234567890": "-1234567890",
		"0123456789": "123456789", "2147483646": "2147483646", "2147483647": "2147483647", "-2147483647": "-2147483647", "-2147483648": "-2147483648",
	} {
		wantAnswer(t, echoInt, "f", field, want+"\n")
		wantAnswer(t, echoBoth, "f", field+" t\n", want+" t\n")
	}
	for _, field := range []string{
		"2147483648", "-2147483649", "2147483650", "4294967296", "4294967301", "-4294967295", "9999999999", "-9999999999",
		"00000000000", "00000000001", "-00000000001", "02147483647", "12345678901", "18446744073709551616", strings.Repeat("1", 5000),
		"-", "--", "--1", "+1", "+", "1-", "1-1", "-+1", "+-1", "1.", "1.0", ".1", "0x1", "0b1", "1e1", "1_0", "_1", "1,0", "'1", "a", "1a", "a1",
		"t", "f", "x", "１", "١", "1\xcc", "½", "∞", "NaN", "$1", "-t", "\"1\"", "-\x00",
	} {
		wantAnswer(t, echoInt, "f", field, badAt(1))
		wantAnswer(t, echoInt, "f", "1\n"+field+"\n", badAt(2))
		wantAnswer(t, echoBoth, "f", field+" t", badAt(1))
	}
	for _, script := range []string{"- 1", "1 000"} {
		wantAnswer(t, echoInt, "f", script, badAt(1))
	}
}

func TestScriptBools(t *testing.T) {
	wantAnswer(t, echoBool, "f", "t\nf\nf\nt\n", "t\nf\nf\nt\n")
	for _, field := range []string{"T", "F", "0", "1", "-1", "tt", "tf", "ft", "true", "false", "t.", "-t", ".", "x", "s", "u", "e", "g", "\x74\x00", "τ", "tf", "\t"} {
		wantAnswer(t, echoBool, "f", field, badAt(1))
		wantAnswer(t, echoBool, "f", "t\n"+field, badAt(2))
		wantAnswer(t, echoBoth, "f", "1 "+field, badAt(1))
	}
	for b := range 256 {
		field := string([]byte{byte(b)})
		if field != "t" && field != "f" && field != "\n" {
			wantAnswer(t, echoBool, "f", field, badAt(1))
		}
	}
}

func TestScriptFields(t *testing.T) {
	for script, want := range map[string]string{
		"5 t": "5 t\n", "5 t\n6 f": "5 t\n6 f\n", "\n-5 f\n": "-5 f\n",
		"5": badAt(1), "t": badAt(1), "5 ": badAt(1), " t": badAt(1), "5 t f": badAt(1), "5 t 6": badAt(1), "5 6 t": badAt(1), "5 t ": badAt(1), " 5 t": badAt(1),
		"5  t": badAt(1), "5   t": badAt(1), "t 5": badAt(1), "5 5": badAt(1), "t t": badAt(1), "5\tt": badAt(1), "5t": badAt(1), "5,t": badAt(1), "5\u00a0t": badAt(1),
		"5\nt": badAt(1), "5 t\r": badAt(1), "5\r t": badAt(1), " ": badAt(1), "  ": badAt(1), ".": badAt(1), ". .": badAt(1), "5 .": badAt(1),
		"5 t\n6 f\n7\n": badAt(3), "5 t\n\n6 f \n7 f\n": badAt(3), "5 t 5 t": badAt(1),
	} {
		wantAnswer(t, echoBoth, "f", script, want)
	}
	three := "node f(a: bool; b: int; c: bool) returns (d: bool; e: int; g: bool) let d = c; e = - b; g = a; tel"
	wantAnswer(t, three, "f", "t 1 f\nf -2 t\n", "f -1 t\nt 2 f\n")
	wantAnswer(t, three, "f", "t 1 f\nf -2\n", badAt(2))
	wantAnswer(t, three, "f", "1 t f\n", badAt(1))
}

func TestScriptsWithoutInputs(t *testing.T) {
	for script, want := range map[string]string{
		"": "", "\n": "", ".": "1\n", ".\n": "1\n", ".\n.": "1\n2\n", "\n.\n\n\n.\n.\n": "1\n2\n3\n",
		"..": badAt(1), ". .": badAt(1), " .": badAt(1), ". ": badAt(1), " ": badAt(1), ".\r": badAt(1), ".\r\n.": badAt(1), "\r": badAt(1),
		"t": badAt(1), "1": badAt(1), "0": badAt(1), "-": badAt(1), ",": badAt(1), ".\nt": badAt(2), ".\n\n.\n..\n": badAt(4), "\x00": badAt(1), "．": badAt(1),
	} {
		wantAnswer(t, tick, "f", script, want)
	}
	wantAnswer(t, echoInt, "f", ".", badAt(1))
	wantAnswer(t, echoBool, "f", ".", badAt(1))
	wantAnswer(t, echoBoth, "f", ". .", badAt(1))
}

func TestScriptLength(t *testing.T) {
	empty := strings.Repeat("\n", impl.MaxScript)
	wantAnswer(t, echoInt, "f", empty, "")
	wantAnswer(t, echoInt, "f", empty+"\n", badAt(0))
	wantAnswer(t, echoInt, "f", empty[1:]+"5", "5\n")
	wantAnswer(t, echoInt, "f", "5"+empty[1:], "5\n")
	wantAnswer(t, echoInt, "f", "5"+empty, badAt(0))
	wantAnswer(t, echoInt, "f", empty+"5", badAt(0))
	wantAnswer(t, echoInt, "f", empty[1:]+"x", badAt(impl.MaxScript))
	wantAnswer(t, echoInt, "f", empty+"x", badAt(0))
	wantAnswer(t, echoInt, "f", "x"+empty[1:], badAt(1))
	wantAnswer(t, echoInt, "f", "x"+empty, badAt(0))
	wantAnswer(t, echoInt, "f", strings.Repeat("1", impl.MaxScript), badAt(1))
	wantAnswer(t, echoInt, "f", strings.Repeat("1", impl.MaxScript+1), badAt(0))
	rows := strings.Repeat("-2147483648\n", impl.MaxRows)
	wantAnswer(t, echoInt, "f", rows+empty[len(rows):], rows)
	wantAnswer(t, echoInt, "f", rows+empty[len(rows)-1:], badAt(0))
	// The length is asked of the machine's script just as well where there are no inputs.
	wantAnswer(t, tick, "f", "."+empty[1:], "1\n")
	wantAnswer(t, tick, "f", "."+empty, badAt(0))
}

func TestScriptRows(t *testing.T) {
	rows := strings.Repeat("5\n", impl.MaxRows)
	wantAnswer(t, echoInt, "f", rows, rows)
	wantAnswer(t, echoInt, "f", strings.TrimSuffix(rows, "\n"), rows)
	wantAnswer(t, echoInt, "f", "\n\n"+strings.ReplaceAll(rows, "\n", "\n\n\n"), rows)
	wantAnswer(t, echoInt, "f", rows+"5", badAt(0))
	wantAnswer(t, echoInt, "f", rows+"5\n", badAt(0))
	wantAnswer(t, echoInt, "f", "5\n"+rows, badAt(0))
	wantAnswer(t, echoInt, "f", rows+"\n\n5\n", badAt(0))
	wantAnswer(t, echoInt, "f", rows+rows, badAt(0))
	// Too many rows come ahead of a bad line, wherever it stands.
	wantAnswer(t, echoInt, "f", "x\n5\n"+rows, badAt(0))
	wantAnswer(t, echoInt, "f", rows+"x\n5\n", badAt(0))
	wantAnswer(t, echoInt, "f", rows+"5\nx\n", badAt(0))
	wantAnswer(t, echoInt, "f", rows+"5\nx", badAt(0))
	// A line that is bad isn't a row.
	wantAnswer(t, echoInt, "f", rows+"x\n", badAt(impl.MaxRows+1))
	wantAnswer(t, echoInt, "f", "x\n"+rows, badAt(1))
	wantAnswer(t, echoInt, "f", strings.Repeat("x\n", 2*impl.MaxRows), badAt(1))
	wantAnswer(t, echoInt, "f", rows[2:]+"x\n5\n", badAt(impl.MaxRows))
	wantAnswer(t, echoInt, "f", rows[2:]+"x", badAt(impl.MaxRows))
	wantAnswer(t, echoInt, "f", rows+"5\nx"+strings.Repeat("\n", impl.MaxScript), badAt(0))
	ticks := strings.Repeat(".\n", impl.MaxRows)
	if got := wantAgreed(t, tick, "f", ticks); strings.Count(got, "\n") != impl.MaxRows || !strings.HasSuffix(got, "\n999\n1000\n") {
		t.Error(short(got))
	}
	wantAnswer(t, tick, "f", ticks+".", badAt(0))
	wantAnswer(t, tick, "f", ticks+"..", badAt(impl.MaxRows+1))
}

func TestScriptOutputs(t *testing.T) {
	wantAnswer(t, "node f(x: int) returns (a: int; b: int) let a = x + 1; b = x - 1; tel", "f",
		"2147483647\n-2147483648\n0\n-1\n", "-2147483648 2147483646\n-2147483647 2147483647\n1 -1\n0 -2\n")
	wantAnswer(t, "node f(x: int) returns (a: bool; b: int; c: bool) let a = x > 0; b = x; c = not a; tel", "f", "1\n-1\n0", "t 1 f\nf -1 t\nf 0 t\n")
}

func wantPlayed(t *testing.T, text, script, want string) {
	t.Helper()
	if got := impl.Play(text, script); got != want {
		t.Errorf("Play of\n%s\nwith %q gives %q, asked for %q", short(text), short(script), short(got), short(want))
	}
}

func TestPlayMachines(t *testing.T) {
	one := "class k\nin x int\nout b bool\nout i int\nset b : .x\nset i : .x\nendclass\n"
	wantPlayed(t, one, "0\n1\n-1\n2\n-2147483648\n2147483647\n", "f 0\nt 1\nt -1\nt 2\nt -2147483648\nt 2147483647\n")
	// The last class is the one that is run.
	other := "class l\nout o int\nmem 3\nuse k\nset o : @0\nsave 0 : .o 1 -\nendclass\n"
	wantPlayed(t, one+other, ".\n.\n.\n.\n.\n", "3\n2\n1\n0\n-1\n")
	wantPlayed(t, other[:len("class l\nout o int\nmem 3\n")]+"endclass\n"+one, "7", "t 7\n")
	wantPlayed(t, one+other, "7", badAt(1))
	// What has no statements gives its outputs as they begin.
	wantPlayed(t, "class k\nin x bool\nout a bool\nout b int\nendclass\n", "t\nf\n", "f 0\nf 0\n")
	// Cells at the ends of the range, and a state of several classes.
	ends := "class k\nout i int\nmem -2147483648\nset i : @0\nsave 0 : @0 1 -\nendclass\n"
	wantPlayed(t, ends, ".\n.\n.", "-2147483648\n2147483647\n2147483646\n")
	pair := "class l\nin x bool\nout a int\nout b int\nmem 5\nuse k\nuse k\nif x\ncall 0 a :\nsave 0 : @0 1 +\nelse\ncall 1 b :\nend\nset b : .b @0 +\nendclass\n"
	wantPlayed(t, ends+pair, "t\nt\nf\nt\nf\n", "-2147483648 6\n2147483647 7\n0 -2147483641\n2147483646 8\n0 -2147483641\n")
}

func TestPlayNoMachine(t *testing.T) {
	good := "class k\nin x int\nout y int\nset y : .x\nendclass\n"
	wantPlayed(t, good, "5", "5\n")
	for _, text := range []string{
		"", "\n", " ", "class k\n", good[1:], good[:len(good)-1], good + "\n", "\n" + good, good + good, strings.ReplaceAll(good, "\n", "\r\n"),
		strings.Replace(good, ".x", "  .x", 1), strings.Replace(good, ".x", ".z", 1), strings.Replace(good, "int", "Int", 1), good + "\x00", "\xff", echoInt, "5",
		strings.Replace(good, "y int\n", "y int\nmem 2147483648\n", 1), "machine\n",
	} {
		// The text is looked at ahead of the script.
		for _, script := range []string{"", "5", "x", "\n\n", strings.Repeat("\n", impl.MaxScript+1), strings.Repeat("5\n", impl.MaxRows+1)} {
			wantPlayed(t, text, script, "machine\n")
		}
	}
}

func TestPlayAtRandom(t *testing.T) {
	count := map[string]int{}
	for seed := range int64(2000) {
		m := newMaker(seed)
		machine := m.machine()
		if seed%3 == 0 {
			machine = m.runningMachine()
		}
		text := impl.PrintMachine(machine)
		if seed%5 == 0 {
			text = m.changedText(text)
		}
		ins := machine.Classes[len(machine.Classes)-1].Ins
		script := m.script(slotTypes(ins), m.Intn(12), 5)
		want := playedAgain(text, script)
		wantPlayed(t, text, script, want)
		kind := "rows"
		for _, word := range []string{"machine", "script"} {
			if strings.HasPrefix(want, word) {
				kind = word
			}
		}
		count[kind]++
	}
	if count["machine"] < 100 || count["script"] < 100 || count["rows"] < 500 {
		t.Error("too few of a kind", count)
	}
}

func TestPlayAnyStrings(t *testing.T) {
	pieces := strings.Split("class k|in x int|out y int|out z bool|loc l|mem 1|set y : .x|set z : .x|endclass|5|t|.", "|")
	lines := slices.Clone(pieces)
	for i := range lines {
		lines[i] += "\n"
	}
	for seed := range int64(3000) {
		m := newMaker(seed)
		text, script := m.junk(lines, 6), m.junk([]string{"5", "t", " ", "\n", "-", ".", "\n"}, 8)
		if seed%2 == 0 {
			text = "class k\nout y int\n" + m.junk(lines[5:8], 2) + "endclass\n"
		}
		wantPlayed(t, text, script, playedAgain(text, script))
	}
}

func wantEvaluated(t *testing.T, src, name, script, want string) {
	t.Helper()
	if got := impl.Eval(src, name, script); got != want {
		t.Errorf("Eval of %q of\n%s\nwith %q gives %q, asked for %q", name, short(src), short(script), short(got), short(want))
	}
}

func TestEvalLines(t *testing.T) {
	wantEvaluated(t, echoInt, "f", "5", "5\n")
	wantEvaluated(t, echoInt, "f", "t", "script 1\n")
	wantEvaluated(t, echoInt, "g", "t", "compile 3 0\n")
	wantEvaluated(t, echoInt, "", "5", "compile 3 0\n")
	wantEvaluated(t, echoBool+"#", "g", "5", "compile 1 "+strconv.Itoa(len(echoBool))+"\n")
	wantEvaluated(t, "", "", "", "compile 1 0\n")
	wantEvaluated(t, around("true"), "g", "5", "compile 2 6\n")
	wantEvaluated(t, around("z"), "f", strings.Repeat(".\n", impl.MaxRows+1), "compile 2 8\n")
	wantEvaluated(t, strings.Repeat(" ", impl.MaxSource+1), "f", "x", "compile 1 0\n")
	wantEvaluated(t, tooManyNodes(), "f", "x", "compile 1 0\n")
	// The inputs are those of the node that is asked for, not of the last.
	wantEvaluated(t, example, "count", "t 5", "0\n")
	both := strings.Replace(echoInt, " f(", " i(", 1) + " " + strings.Replace(echoBool, " f(", " b(", 1)
	wantEvaluated(t, both, "i", "5", "5\n")
	wantEvaluated(t, both, "b", "5", "script 1\n")
	wantEvaluated(t, both, "i", "t", "script 1\n")
	wantEvaluated(t, both, "b", "t", "t\n")
}

func TestEvalAnyStrings(t *testing.T) {
	sources := []string{echoInt, echoBool, echoBoth, tick, example, around("q"), "", "node"}
	for seed := range int64(3000) {
		m := newMaker(seed)
		src := pick(m, sources)
		if src != "" && m.Intn(3) == 0 {
			src = m.changedSource(src)
		}
		name := pick(m, []string{"f", "f", "count", "", "q", "\xff"})
		script := m.junk([]string{"5", "t", "5 t", " ", "\n", "-", ".", "\n", ".\n"}, 8)
		wantEvaluated(t, src, name, script, evaluatedAgain(src, name, script))
	}
}
