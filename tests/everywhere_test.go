package tests

import (
	"reflect"
	"slices"
	"strings"
	"testing"
	"unsafe"

	"loop.example/s0043/impl"
)

// What section 0 asks of every function.

// region is the memory of one list or one string.
type region struct {
	from, to uintptr
}

func (r region) meets(s region) bool {
	return r.from < s.to && s.from < r.to
}

// regions gives the memory of all lists within v, to their capacity, and that of all strings.
func regions(v reflect.Value, lists, texts *[]region) {
	switch v.Kind() {
	case reflect.Struct:
		for i := range v.NumField() {
			regions(v.Field(i), lists, texts)
		}
	case reflect.Slice:
		if v.Cap() > 0 {
			*lists = append(*lists, region{v.Pointer(), v.Pointer() + uintptr(v.Cap())*v.Type().Elem().Size()})
		}
		for i := range v.Len() {
			regions(v.Index(i), lists, texts)
		}
	case reflect.String:
		if s := v.String(); s != "" {
			*texts = append(*texts, textRegion(s))
		}
	}
}

func textRegion(s string) region {
	from := uintptr(unsafe.Pointer(unsafe.StringData(s)))
	return region{from, from + uintptr(len(s))}
}

func TestParseGivesNewMemory(t *testing.T) {
	src := strings.Clone(impl.Print(full()))
	p, q := parsed(t, src), parsed(t, src)
	var lists, texts []region
	regions(reflect.ValueOf(p), &lists, &texts)
	regions(reflect.ValueOf(q), &lists, &texts)
	wantApart(t, lists)
	for _, a := range texts {
		if a.meets(textRegion(src)) {
			t.Fatal("a name lies in the source")
		}
	}
}

func wantApart(t *testing.T, lists []region) {
	t.Helper()
	for i, a := range lists {
		for _, b := range lists[:i] {
			if a.meets(b) {
				t.Fatal("two lists share memory")
			}
		}
	}
}

func TestRunGivesNewMemory(t *testing.T) {
	p := parsed(t, "node f(x: int) returns (y: int; z: int) let y = x; z = 0 fby x; tel")
	rows := [][]int{{1}, {2}, {3}}
	first, _ := impl.Run(p, "f", rows)
	second, _ := impl.Run(p, "f", rows)
	var lists, texts []region
	for _, answer := range [][][]int{rows, first, second} {
		regions(reflect.ValueOf(answer), &lists, &texts)
	}
	wantApart(t, lists)
}

func TestArgumentsStay(t *testing.T) {
	for seed := range int64(200) {
		m := newMaker(seed)
		p := m.program()
		if seed%2 == 0 {
			p = passing(seed)
		}
		before := copied(p)
		rows := m.rowsFor(p.Nodes[0], 5)
		rowsBefore := slices.Clone(rows)
		for i, row := range rows {
			rowsBefore[i] = slices.Clone(row)
		}
		answers := answersTo(p, rows)
		if !sameProgram(p, before) || !sameRows(rows, rowsBefore) {
			t.Fatal("an argument was written into")
		}
		if !reflect.DeepEqual(answersTo(p, rows), answers) || !reflect.DeepEqual(answersTo(before, rowsBefore), answers) {
			t.Fatal("another answer the second time")
		}
	}
}

// answersTo gives what all functions answer.
func answersTo(p impl.Program, rows [][]int) []any {
	code, node, place := impl.Check(p)
	out, runCode := impl.Run(p, p.Nodes[0].Name, rows)
	return []any{impl.ShapeOK(p), impl.Print(p), impl.Weight(p, 0), code, node, place, out, runCode}
}

func TestConstants(t *testing.T) {
	got := []int{
		impl.MaxSource, impl.MaxName, impl.MaxInt, impl.MaxNodes, impl.MaxVars, impl.MaxEqs, impl.MaxItems, impl.MaxClock,
		impl.TypeInt, impl.TypeBool,
		impl.ParseOK, impl.ParseLong, impl.ParseLex, impl.ParseSyntax, impl.ParseMany,
		impl.OpInt, impl.OpBool, impl.OpVar, impl.OpNeg, impl.OpNot, impl.OpAdd, impl.OpSub, impl.OpMul, impl.OpDiv, impl.OpMod,
		impl.OpEq, impl.OpNe, impl.OpLt, impl.OpLe, impl.OpGt, impl.OpGe, impl.OpAnd, impl.OpOr, impl.OpXor, impl.OpIf,
		impl.OpFby, impl.OpFbyB, impl.OpWhen, impl.OpMerge, impl.OpMem,
		impl.MaxWeight, impl.MaxRows,
		impl.CheckOK, impl.CheckShape, impl.CheckName, impl.CheckDecl, impl.CheckDef, impl.CheckCall, impl.CheckType, impl.CheckClock,
		impl.CheckCycle, impl.CheckWeight,
		impl.RunOK, impl.RunCheck, impl.RunName, impl.RunRow,
	}
	want := []int{20000, 40, 2147483647, 200, 500, 500, 3000, 8, 1, 2, 0, 1, 2, 3, 4}
	for o := 1; o <= 25; o++ {
		want = append(want, o)
	}
	want = append(want, 20000, 1000, 0, 1, 2, 3, 4, 5, 6, 7, 8, 9, 0, 1, 2, 3)
	if !reflect.DeepEqual(got, want) {
		t.Error(got)
	}
}
