package tests

import (
	"reflect"
	"strings"
	"testing"
	"unsafe"

	"loop.example/s0043/impl"
)

// What section 0 asks of every function.

// region is the memory of one list or one string.
type region struct {
	from, to uintptr
}

func (r region) meets(s region) bool {
	return r.from < s.to && s.from < r.to
}

// regions gives the memory of all lists within v, to their capacity, and that of all strings.
func regions(v reflect.Value, lists, texts *[]region) {
	switch v.Kind() {
	case reflect.Struct:
		for i := range v.NumField() {
			regions(v.Field(i), lists, texts)
		}
	case reflect.Slice:
		if v.Cap() > 0 {
			*lists = append(*lists, region{v.Pointer(), v.Pointer() + uintptr(v.Cap())*v.Type().Elem().Size()})
		}
		for i := range v.Len() {
			regions(v.Index(i), lists, texts)
		}
	case reflect.String:
		if s := v.String(); s != "" {
			*texts = append(*texts, textRegion(s))
		}
	}
}

func textRegion(s string) region {
	from := uintptr(unsafe.Pointer(unsafe.StringData(s)))
	return region{from, from + uintptr(len(s))}
}

func TestParseGivesNewMemory(t *testing.T) {
	src := strings.Clone(impl.Print(full()))
	p, q := parsed(t, src), parsed(t, src)
	var lists, texts []region
	regions(reflect.ValueOf(p), &lists, &texts)
	regions(reflect.ValueOf(q), &lists, &texts)
	for i, a := range lists {
		for _, b := range lists[:i] {
			if a.meets(b) {
				t.Fatal("two lists share memory")
			}
		}
	}
	for _, a := range texts {
		if a.meets(textRegion(src)) {
			t.Fatal("a name lies in the source")
		}
	}
}

func TestArgumentsStay(t *testing.T) {
	for seed := range int64(200) {
		p := newMaker(seed).program()
		before := copied(p)
		impl.ShapeOK(p)
		text := impl.Print(p)
		if !sameProgram(p, before) {
			t.Fatal("the program was written into")
		}
		if impl.Print(p) != text || impl.Print(before) != text {
			t.Fatal("another text the second time")
		}
	}
}

func TestConstants(t *testing.T) {
	got := []int{
		impl.MaxSource, impl.MaxName, impl.MaxInt, impl.MaxNodes, impl.MaxVars, impl.MaxEqs, impl.MaxItems, impl.MaxClock,
		impl.TypeInt, impl.TypeBool,
		impl.ParseOK, impl.ParseLong, impl.ParseLex, impl.ParseSyntax, impl.ParseMany,
		impl.OpInt, impl.OpBool, impl.OpVar, impl.OpNeg, impl.OpNot, impl.OpAdd, impl.OpSub, impl.OpMul, impl.OpDiv, impl.OpMod,
		impl.OpEq, impl.OpNe, impl.OpLt, impl.OpLe, impl.OpGt, impl.OpGe, impl.OpAnd, impl.OpOr, impl.OpXor, impl.OpIf,
		impl.OpFby, impl.OpFbyB, impl.OpWhen, impl.OpMerge, impl.OpMem,
	}
	want := []int{20000, 40, 2147483647, 200, 500, 500, 3000, 8, 1, 2, 0, 1, 2, 3, 4}
	for o := 1; o <= 25; o++ {
		want = append(want, o)
	}
	if !reflect.DeepEqual(got, want) {
		t.Error(got)
	}
}
