package tests

import (
	"reflect"
	"slices"
	"strings"
	"testing"
	"unsafe"

	"loop.example/s0043/impl"
)

// What section 0 asks of every function.

// region is the memory of one list or one string.
type region struct {
	from, to uintptr
}

func (r region) meets(s region) bool {
	return r.from < s.to && s.from < r.to
}

// regions gives the memory of all lists within v, to their capacity, and that of all strings.
func regions(v reflect.Value, lists, texts *[]region) {
	switch v.Kind() {
	case reflect.Struct:
		for i := range v.NumField() {
			regions(v.Field(i), lists, texts)
		}
	case reflect.Slice:
		if v.Cap() > 0 {
			*lists = append(*lists, region{v.Pointer(), v.Pointer() + uintptr(v.Cap())*v.Type().Elem().Size()})
		}
		for i := range v.Len() {
			regions(v.Index(i), lists, texts)
		}
	case reflect.String:
		if s := v.String(); s != "" {
			*texts = append(*texts, textRegion(s))
		}
	}
}

func textRegion(s string) region {
	from := uintptr(unsafe.Pointer(unsafe.StringData(s)))
	return region{from, from + uintptr(len(s))}
}

func TestParseGivesNewMemory(t *testing.T) {
	src := strings.Clone(impl.Print(full()))
	p, q := parsed(t, src), parsed(t, src)
	var lists, texts []region
	regions(reflect.ValueOf(p), &lists, &texts)
	regions(reflect.ValueOf(q), &lists, &texts)
	wantApart(t, lists)
	for _, a := range texts {
		if a.meets(textRegion(src)) {
			t.Fatal("a name lies in the source")
		}
	}
}

func wantApart(t *testing.T, lists []region) {
	t.Helper()
	for i, a := range lists {
		for _, b := range lists[:i] {
			if a.meets(b) {
				t.Fatal("two lists share memory")
			}
		}
	}
}

func TestRunGivesNewMemory(t *testing.T) {
	p := parsed(t, "node f(x: int) returns (y: int; z: int) let y = x; z = 0 fby x; tel")
	rows := [][]int{{1}, {2}, {3}}
	first, _ := impl.Run(p, "f", rows)
	second, _ := impl.Run(p, "f", rows)
	var lists, texts []region
	for _, answer := range [][][]int{rows, first, second} {
		regions(reflect.ValueOf(answer), &lists, &texts)
	}
	wantApart(t, lists)
}

func TestMachinesGiveNewMemory(t *testing.T) {
	m := everything()
	text := strings.Clone(impl.PrintMachine(m))
	first, _ := impl.ReadMachine(text)
	second, _ := impl.ReadMachine(text)
	state, ins := impl.Reset(m, 1), []int{1, 1}
	again := impl.Reset(m, 1)
	after, outs, _ := impl.Step(m, 1, state, ins)
	afterwards, outsAgain, _ := impl.Step(m, 1, state, ins)
	var lists, texts []region
	for _, machine := range []impl.Machine{first, second} {
		regions(reflect.ValueOf(machine), &lists, &texts)
	}
	for _, a := range texts {
		if a.meets(textRegion(text)) {
			t.Fatal("a name lies in the text")
		}
	}
	for _, values := range [][]int{m.Classes[0].Mems, m.Classes[1].Mems, state, again, ins, after, outs, afterwards, outsAgain} {
		regions(reflect.ValueOf(values), &lists, &texts)
	}
	wantApart(t, lists)
}

// regionsOf gives the memory of all lists within some things, and that of all strings.
func regionsOf(things ...any) (lists, texts []region) {
	for _, thing := range things {
		regions(reflect.ValueOf(thing), &lists, &texts)
	}
	return lists, texts
}

func wantNewMemory(t *testing.T, argument any, answers ...any) {
	t.Helper()
	lists, texts := regionsOf(answers...)
	oldLists, oldTexts := regionsOf(argument)
	wantApart(t, append(lists, oldLists...))
	for _, a := range texts {
		for _, b := range oldTexts {
			if a.meets(b) {
				t.Fatal("a name lies in an argument")
			}
		}
	}
}

func TestLoweringGivesNewMemory(t *testing.T) {
	calling := parsed(t, `node g(i: int; b: bool) returns (o: int; p: bool) let o = (0 fby i) + (1 fby o); p = not b; tel
node f(x: int; c: bool) returns (z: int) var d: bool when c; u: int when c when d; a: int whenot c; b: bool whenot c;
let d = (x > 0) when c; u = 4 fby (u + (5 fby 6)); a, b = g((2 fby x) whenot c, true fby (c whenot c)); z = merge c (merge d u 3) a; tel`)
	programs := []impl.Program{calling, impl.Normalise(calling), parsed(t, deepNode("(0 fby u) + (1 fby x CLOCK)"))}
	for seed := range int64(60) {
		programs = append(programs, passing(seed))
	}
	for _, p := range programs {
		if code, _, _ := impl.Check(p); code != impl.CheckOK {
			t.Fatal("code", code)
		}
		wantNewMemory(t, p, impl.Normalise(p), impl.Normalise(p), impl.Order(p, 0), impl.Order(p, 0), impl.Translate(p), impl.Translate(p))
		m := impl.Translate(p)
		wantNewMemory(t, m, impl.Fuse(m), impl.Fuse(m))
		f := impl.Fuse(m)
		wantNewMemory(t, f, impl.Fuse(f))
	}
	wantNewMemory(t, everything(), impl.Fuse(everything()), impl.Fuse(everything()))
	for seed := range int64(20) {
		m := newMaker(seed).runningMachine()
		lists, _ := regionsOf(impl.Fuse(m), impl.Fuse(m))
		wantApart(t, lists)
	}
}

func TestTextsAreNewMemory(t *testing.T) {
	for seed := range int64(60) {
		m := newMaker(seed)
		p := withoutFreshNames(t, passing(seed))
		n := pick(m, p.Nodes)
		src, name, script := m.sourceOf(p), strings.Clone(n.Name), m.script(varTypes(n.Ins), 5, 4)
		text, _, _ := impl.Compile(src, name)
		again, _, _ := impl.Compile(src, name)
		wantNewMemory(t, []string{src, name, script}, text, again, impl.Eval(src, name, script), impl.Eval(src, name+"q", script))
		wantNewMemory(t, []string{text, script}, impl.Play(text, script), impl.Play(script, text))
		if again != text || impl.Play(text, script) != impl.Play(text, script) || impl.Eval(src, name, script) != impl.Eval(src, name, script) {
			t.Fatal("another answer the second time")
		}
	}
	echo, _, _ := impl.Compile(echoInt, "f")
	script := strings.Clone("12345\n")
	wantNewMemory(t, []string{echo, script}, impl.Play(echo, script), impl.Eval(echoInt, "f", script))
}

func TestMachinesAndStatesStay(t *testing.T) {
	for seed := range int64(500) {
		maker := newMaker(seed)
		m := maker.machine()
		if seed%3 == 0 {
			m = maker.runningMachine()
		}
		class := maker.Intn(len(m.Classes))
		state, ins := maker.valuesFor(m, class)
		if seed%2 == 0 {
			m = maker.altered(m, 1)
		}
		before, stateBefore, insBefore := copiedMachine(m), slices.Clone(state), slices.Clone(ins)
		answers := machineAnswers(m, class, state, ins)
		if !sameMachine(m, before) || !slices.Equal(state, stateBefore) || !slices.Equal(ins, insBefore) {
			t.Fatal("an argument was written into")
		}
		if !reflect.DeepEqual(machineAnswers(m, class, state, ins), answers) ||
			!reflect.DeepEqual(machineAnswers(before, class, stateBefore, insBefore), answers) {
			t.Fatal("another answer the second time")
		}
	}
}

// machineAnswers gives what all functions of machines answer.
func machineAnswers(m impl.Machine, class int, state, ins []int) []any {
	after, outs, cost := impl.Step(m, class, state, ins)
	text := impl.PrintMachine(m)
	read, code := impl.ReadMachine(text)
	return []any{impl.MachineOK(m), impl.Cells(m, class), impl.Bound(m, class), impl.Reset(m, class), after, outs, cost, text, read, code, impl.Fuse(m)}
}

func TestArgumentsStay(t *testing.T) {
	for seed := range int64(200) {
		m := newMaker(seed)
		p := m.program()
		if seed%2 == 0 {
			p = passing(seed)
		}
		before := copied(p)
		rows := m.rowsFor(p.Nodes[0], 5)
		rowsBefore := slices.Clone(rows)
		for i, row := range rows {
			rowsBefore[i] = slices.Clone(row)
		}
		answers := answersTo(p, rows)
		if !sameProgram(p, before) || !sameRows(rows, rowsBefore) {
			t.Fatal("an argument was written into")
		}
		if !reflect.DeepEqual(answersTo(p, rows), answers) || !reflect.DeepEqual(answersTo(before, rowsBefore), answers) {
			t.Fatal("another answer the second time")
		}
	}
}

// answersTo gives what all functions of programs answer.
func answersTo(p impl.Program, rows [][]int) []any {
	code, node, place := impl.Check(p)
	out, runCode := impl.Run(p, p.Nodes[0].Name, rows)
	return []any{impl.ShapeOK(p), impl.Print(p), impl.Weight(p, 0), code, node, place, out, runCode,
		impl.Normalise(p), impl.Order(p, 0), impl.Translate(p)}
}

func TestConstants(t *testing.T) {
	got := []int{
		impl.MaxSource, impl.MaxName, impl.MaxInt, impl.MaxNodes, impl.MaxVars, impl.MaxEqs, impl.MaxItems, impl.MaxClock,
		impl.TypeInt, impl.TypeBool,
		impl.ParseOK, impl.ParseLong, impl.ParseLex, impl.ParseSyntax, impl.ParseMany,
		impl.OpInt, impl.OpBool, impl.OpVar, impl.OpNeg, impl.OpNot, impl.OpAdd, impl.OpSub, impl.OpMul, impl.OpDiv, impl.OpMod,
		impl.OpEq, impl.OpNe, impl.OpLt, impl.OpLe, impl.OpGt, impl.OpGe, impl.OpAnd, impl.OpOr, impl.OpXor, impl.OpIf,
		impl.OpFby, impl.OpFbyB, impl.OpWhen, impl.OpMerge, impl.OpMem,
		impl.MaxWeight, impl.MaxRows,
		impl.CheckOK, impl.CheckShape, impl.CheckName, impl.CheckDecl, impl.CheckDef, impl.CheckCall, impl.CheckType, impl.CheckClock,
		impl.CheckCycle, impl.CheckWeight,
		impl.RunOK, impl.RunCheck, impl.RunName, impl.RunRow,
		impl.MaxClasses, impl.MaxSlots, impl.MaxStms, impl.MaxCode, impl.MaxCells, impl.MaxCost, impl.MaxNest,
		impl.StmSet, impl.StmSave, impl.StmCall, impl.StmIf, impl.StmElse, impl.StmEnd,
		impl.ReadOK, impl.ReadBad,
		impl.MaxScript, impl.CompileOK, impl.CompileParse, impl.CompileCheck, impl.CompileName,
	}
	want := []int{20000, 40, 2147483647, 200, 500, 500, 3000, 8, 1, 2, 0, 1, 2, 3, 4}
	for o := 1; o <= 25; o++ {
		want = append(want, o)
	}
	want = append(want, 20000, 1000, 0, 1, 2, 3, 4, 5, 6, 7, 8, 9, 0, 1, 2, 3)
	want = append(want, 200, 1000, 30000, 6000, 20000, 400000, 20, 1, 2, 3, 4, 5, 6, 0, 1)
	want = append(want, 100000, 0, 1, 2, 3)
	if !reflect.DeepEqual(got, want) {
		t.Error(got)
	}
}
