package tests

import (
	"math"
	"slices"
	"strconv"
	"testing"

	"loop.example/s0043/impl"
)

// MachineOK, and what the other functions answer where it doesn't hold.

func wantMachine(t *testing.T, what any, m impl.Machine, ok bool) {
	t.Helper()
	if impl.MachineOK(m) != ok {
		t.Errorf("%v: MachineOK gives %v", what, !ok)
	}
	if (impl.PrintMachine(m) != "") != ok {
		t.Errorf("%v: PrintMachine gives %q", what, short(impl.PrintMachine(m)))
	}
	for k, c := range m.Classes[:min(3, len(m.Classes))] {
		state, outs, cost := impl.Step(m, k, impl.Reset(m, k), make([]int, len(c.Ins)))
		if (impl.Cells(m, k) >= 0) != ok || (impl.Bound(m, k) >= 0) != ok || (cost >= 0) != ok || (len(outs) > 0) != ok {
			t.Errorf("%v: class %d gives Cells %d, Bound %d, cost %d", what, k, impl.Cells(m, k), impl.Bound(m, k), cost)
		}
		if !ok && len(impl.Reset(m, k))+len(state) > 0 {
			t.Errorf("%v: class %d has a state", what, k)
		}
	}
}

type machineCase struct {
	what string
	body stmList
	ok   bool
}

func wantBodies(t *testing.T, cases []machineCase) {
	t.Helper()
	for _, c := range cases {
		wantMachine(t, c.what, owning(c.body...), c.ok)
	}
}

func TestMachinesAtRandom(t *testing.T) {
	for seed := range int64(3000) {
		m := newMaker(seed).machine()
		if !fits(m) {
			t.Fatal("the maker made a wrong machine", seed)
		}
		wantMachine(t, seed, m, true)
	}
}

func TestMachineOKOfAlteredMachines(t *testing.T) {
	count := map[bool]int{}
	for seed := range int64(12000) {
		m := newMaker(seed)
		altered := m.altered(m.machine(), 1+m.Intn(2))
		ok := fits(altered)
		count[ok]++
		if impl.MachineOK(altered) != ok {
			t.Fatalf("seed %d: MachineOK gives %v for %+v", seed, !ok, altered)
		}
	}
	if count[true] < 2000 || count[false] < 2000 {
		t.Error("too few of a kind", count)
	}
}

func TestMachineOKOfNothing(t *testing.T) {
	wantMachine(t, "no class", impl.Machine{}, false)
	wantMachine(t, "an empty list", impl.Machine{Classes: []impl.Class{}}, false)
	wantMachine(t, "an empty class", machine(impl.Class{}), false)
	wantMachine(t, "the least class", machine(impl.Class{Name: "k", Outs: []impl.Slot{slot("o")}}), true)
}

// namedMachines gives machines with a name at every place where one is declared.
func namedMachines(s string) []impl.Machine {
	list := []impl.Machine{owning(), owning(), owning(), owning(), owning()}
	for _, m := range list {
		m.Classes[1].Locs = []string{"l", "m"}
	}
	list[0].Classes[0].Name = s
	list[1].Classes[1].Name = s
	list[2].Classes[1].Ins[1].Name = s
	list[3].Classes[1].Outs[1].Name = s
	list[4].Classes[1].Locs[1] = s
	return list
}

func TestMachineNames(t *testing.T) {
	for _, s := range goodNames {
		for i, m := range namedMachines(s) {
			wantMachine(t, []any{i, s}, m, true)
		}
	}
	for _, s := range append(slices.Clone(badNames), "") {
		for i, m := range namedMachines(s) {
			wantMachine(t, []any{i, short(s)}, m, false)
		}
	}
}

func TestMachineNamesAlike(t *testing.T) {
	// Variables of owner: i, c; o, p; l, $1.
	rename := []func(c *impl.Class, s string){
		func(c *impl.Class, s string) { c.Ins[1].Name = s },
		func(c *impl.Class, s string) { c.Outs[1].Name = s },
		func(c *impl.Class, s string) { c.Locs[1] = s },
	}
	for i, put := range rename {
		for _, s := range []string{"i", "o", "l"} {
			m := owning()
			put(&m.Classes[1], s)
			wantMachine(t, []any{i, s}, m, false)
		}
		for _, s := range []string{"owner", "leaf", "y"} {
			m := owning()
			put(&m.Classes[1], s)
			wantMachine(t, []any{i, s}, m, true)
		}
	}
	third := owner()
	for s, ok := range map[string]bool{"leaf": false, "owner": false, "Leaf": true, "i": true} {
		third.Name = s
		wantMachine(t, s, machine(leaf(), owner(), third), ok)
	}
}

func TestMachineTypes(t *testing.T) {
	for _, kind := range []int{math.MinInt, -1, 0, 1, 2, 3, math.MaxInt} {
		m, n := owning(), owning()
		m.Classes[1].Ins[1].Type = kind
		n.Classes[1].Outs[1].Type = kind
		wantMachine(t, kind, m, kind == impl.TypeInt || kind == impl.TypeBool)
		wantMachine(t, kind, n, kind == impl.TypeInt || kind == impl.TypeBool)
	}
}

func TestMachineCounts(t *testing.T) {
	var classes []impl.Class
	for i := range impl.MaxClasses + 1 {
		classes = append(classes, impl.Class{Name: "k" + strconv.Itoa(i), Outs: []impl.Slot{slot("o")}})
	}
	wantMachine(t, "classes", machine(classes[:impl.MaxClasses]...), true)
	wantMachine(t, "one class more", machine(classes...), false)
	for _, c := range []struct {
		ins, outs, locs int
		ok              bool
	}{
		{0, 0, 0, false}, {1, 0, 1, false}, {0, 1, 0, true},
		{impl.MaxSlots - 1, 1, 0, true}, {impl.MaxSlots, 1, 0, false},
		{0, impl.MaxSlots, 0, true}, {0, impl.MaxSlots + 1, 0, false},
		{0, 1, impl.MaxSlots - 1, true}, {0, 1, impl.MaxSlots, false},
		{333, 333, 334, true}, {334, 333, 334, false}, {333, 334, 334, false}, {333, 333, 335, false},
	} {
		k := impl.Class{Name: "k", Ins: numbered("i", c.ins), Outs: numbered("o", c.outs), Locs: slotNames(numbered("l", c.locs))}
		wantMachine(t, c, machine(k), c.ok)
	}
	for _, over := range []int{0, 1} {
		m, n, o := owning(), owning(), owning()
		m.Classes[1].Mems = make([]int, impl.MaxSlots+over)
		wantMachine(t, []any{"Mems", over}, m, over == 0)
		n.Classes[1].Insts = make([]int, impl.MaxSlots+over)
		wantMachine(t, []any{"Insts", over}, n, over == 0)
		o.Classes[1].Body = slices.Repeat(stms(set("o", number(1))), impl.MaxStms+over)
		wantMachine(t, []any{"Sets", over}, o, over == 0)
		o.Classes[1].Body = slices.Concat(slices.Repeat(branches("i", nil, nil), impl.MaxStms/3), stms(save(0, number(1)))[:over])
		wantMachine(t, []any{"Ifs", over}, o, over == 0)
	}
}

func TestMachineMemsAndInsts(t *testing.T) {
	for v, ok := range map[int]bool{
		0: true, math.MaxInt32: true, math.MinInt32: true, math.MaxInt32 + 1: false, math.MinInt32 - 1: false,
		math.MaxInt: false, math.MinInt: false, 1 << 32: false, -1 << 32: false,
	} {
		m := owning()
		m.Classes[1].Mems[1] = v
		wantMachine(t, v, m, ok)
	}
	for k, ok := range map[int]bool{-1: false, 0: true, 1: true, 2: false, 3: false, 4: false, math.MinInt: false, math.MaxInt: false} {
		other, last := owner(), owner()
		other.Name, last.Name = "other", "last"
		other.Insts = []int{0, k}
		wantMachine(t, []any{"inst", k}, machine(leaf(), owner(), other, last), ok)
	}
	first := leaf()
	first.Insts = []int{0}
	wantMachine(t, "an instance of itself", machine(first), false)
}

func TestMachineKinds(t *testing.T) {
	for _, kind := range []int{math.MinInt, -1, 0, 7, 8, 100, math.MaxInt} {
		wantMachine(t, kind, owning(impl.Stm{Kind: kind}), false)
		wantMachine(t, kind, owning(impl.Stm{Kind: kind, Name: "o", Code: code(number(1))}), false)
	}
}

func TestMachineIfs(t *testing.T) {
	a, b := set("o", number(1)), set("p", number(1))
	wantBodies(t, []machineCase{
		{"no statement", nil, true},
		{"empty branches", branches("c", nil, nil), true},
		{"two branches", branches("c", stms(a), stms(b)), true},
		{"Ifs in both", branches("c", branches("i", stms(a), nil), branches("l", nil, stms(b))), true},
		{"neighbours", slices.Concat(branches("c", nil, nil), branches("c", nil, nil)), true},
		{"the same If within", branches("c", branches("c", nil, nil), nil), true},
		{"If alone", stms(ifOn("c")), false},
		{"no End", stms(ifOn("c"), a, orElse(), b), false},
		{"no Else", stms(ifOn("c"), a, endIf()), false},
		{"Else behind End", stms(ifOn("c"), endIf(), orElse()), false},
		{"two Elses", stms(ifOn("c"), orElse(), orElse(), endIf()), false},
		{"two Ends", stms(ifOn("c"), orElse(), endIf(), endIf()), false},
		{"Else first", stms(orElse(), endIf()), false},
		{"End first", stms(endIf()), false},
		{"Else and End swapped", stms(ifOn("c"), endIf(), orElse(), endIf()), false},
		{"an End for two", stms(ifOn("c"), ifOn("i"), orElse(), orElse(), endIf()), false},
		{"an Else for two", stms(ifOn("c"), ifOn("i"), orElse(), endIf(), endIf()), false},
		{"the outer one without Else", slices.Concat(stms(ifOn("c")), branches("i", nil, nil), stms(endIf())), false},
		{"the inner one without Else", stms(ifOn("c"), orElse(), ifOn("i"), endIf(), endIf()), false},
		{"a stray Else behind", slices.Concat(branches("c", nil, nil), stms(orElse())), false},
		{"an End in a branch", stms(ifOn("c"), ifOn("i"), orElse(), endIf(), endIf(), orElse(), endIf()), false},
		{"If on an input", branches("i", nil, nil), true},
		{"If on an output", branches("o", nil, nil), true},
		{"If on a local variable", branches("$1", nil, nil), true},
		{"If on nothing", branches("", nil, nil), false},
		{"If on a variable of another class", branches("x", nil, nil), false},
	})
}

// nested gives a body within so many Ifs, in first and second branches by turns.
func nested(depth int, body stmList) stmList {
	for i := range depth {
		if i%2 == 0 {
			body = branches("c", body, nil)
		} else {
			body = branches("i", nil, body)
		}
	}
	return body
}

func TestMachineNesting(t *testing.T) {
	kinds := []stmList{
		stms(set("o", number(1))), stms(save(1, number(1))), stms(invoke(1, []string{"o", "l"}, code(number(1)))), branches("c", nil, nil),
	}
	for i, body := range kinds {
		for _, depth := range []int{0, 1, impl.MaxNest - 1, impl.MaxNest} {
			wantMachine(t, []any{i, depth}, owning(nested(depth, body)...), true)
			wantMachine(t, []any{i, depth, "both"}, owning(branchesDeep(depth, body)...), true)
		}
		for _, depth := range []int{impl.MaxNest + 1, impl.MaxNest + 2, 100} {
			wantMachine(t, []any{i, depth}, owning(nested(depth, body)...), false)
		}
		wantMachine(t, []any{i, "both"}, owning(branchesDeep(impl.MaxNest+1, body)...), false)
	}
	// Ifs one behind the other don't add up.
	many := slices.Repeat(nested(impl.MaxNest, kinds[0]), 50)
	wantMachine(t, "many", owning(many...), true)
	deep := slices.Concat(slices.Repeat(stms(ifOn("c")), 10000), slices.Repeat(stms(orElse(), endIf()), 10000))
	wantMachine(t, "as deep as there is room for", owning(deep...), false)
}

// branchesDeep puts a body into both branches of the innermost of so many Ifs, which are all in second branches.
func branchesDeep(depth int, body stmList) stmList {
	for i := range depth {
		if i == 0 {
			body = branches("c", body, body)
		} else {
			body = branches("c", nil, body)
		}
	}
	return body
}

func TestMachineSets(t *testing.T) {
	wantBodies(t, []machineCase{
		{"an output", stms(set("p", number(1))), true},
		{"a local variable", stms(set("$1", number(1))), true},
		{"twice", stms(set("l", number(1)), set("l", name("l"))), true},
		{"an input", stms(set("i", number(1))), false},
		{"the last input", stms(set("c", number(1))), false},
		{"nothing", stms(set("", number(1))), false},
		{"a variable of another class", stms(set("y", number(1))), false},
		{"no Code", stms(set("o")), false},
		{"a Save", stms(save(0, number(1))), true},
		{"a Save of the last cell", stms(save(1, number(1))), true},
		{"a Save behind the last", stms(save(2, number(1))), false},
		{"a Save before the first", stms(save(-1, number(1))), false},
		{"a Save far off", stms(save(math.MinInt, number(1))), false},
		{"a Save without Code", stms(save(0)), false},
		{"a wrong one behind right ones", stms(set("o", number(1)), save(0, number(1)), set("i", number(1))), false},
	})
}

func TestMachineCalls(t *testing.T) {
	x := code(name("i"))
	wantBodies(t, []machineCase{
		{"outputs", stms(invoke(0, []string{"o", "p"}, x)), true},
		{"local variables", stms(invoke(1, []string{"$1", "l"}, x)), true},
		{"the same again", stms(invoke(0, []string{"o", "p"}, x), invoke(0, []string{"p", "o"}, x), invoke(1, []string{"o", "p"}, x)), true},
		{"an instance behind the last", stms(invoke(2, []string{"o", "p"}, x)), false},
		{"an instance before the first", stms(invoke(-1, []string{"o", "p"}, x)), false},
		{"an instance far off", stms(invoke(math.MaxInt, []string{"o", "p"}, x)), false},
		{"one output", stms(invoke(0, []string{"o"}, x)), false},
		{"no output", stms(invoke(0, nil, x)), false},
		{"three outputs", stms(invoke(0, []string{"o", "p", "l"}, x)), false},
		{"two alike", stms(invoke(0, []string{"o", "o"}, x)), false},
		{"an input first", stms(invoke(0, []string{"i", "o"}, x)), false},
		{"an input last", stms(invoke(0, []string{"o", "c"}, x)), false},
		{"no variable", stms(invoke(0, []string{"o", "q"}, x)), false},
		{"the empty name", stms(invoke(0, []string{"", "o"}, x)), false},
		{"no argument", stms(invoke(0, []string{"o", "p"})), false},
		{"two arguments", stms(invoke(0, []string{"o", "p"}, x, x)), false},
		{"an empty argument", stms(invoke(0, []string{"o", "p"}, nil)), false},
		{"a wrong argument", stms(invoke(0, []string{"o", "p"}, code(name("q")))), false},
	})
	// The counts are those of the instance's own class, not of another one.
	three := leaf()
	three.Name, three.Ins, three.Body = "three", numbered("i", 3), nil
	c := owner(invoke(0, []string{"o", "p"}, x, x, x), invoke(1, []string{"o", "p"}, x))
	c.Insts = []int{1, 0}
	wantMachine(t, "two classes", machine(leaf(), three, c), true)
	c.Insts = []int{0, 1}
	wantMachine(t, "two classes swapped", machine(leaf(), three, c), false)
	c.Insts = nil
	wantMachine(t, "no instance", machine(leaf(), three, c), false)
	// A hundred Outs, two of them alike.
	wide := impl.Class{Name: "wide", Outs: numbered("o", 100)}
	names := slotNames(wide.Outs)
	for i := range names {
		user := impl.Class{Name: "user", Outs: wide.Outs, Insts: []int{0}, Body: stms(invoke(0, slices.Clone(names)))}
		wantMachine(t, i, machine(wide, user), true)
		user.Body[0].Outs[i] = names[99-i]
		wantMachine(t, i, machine(wide, user), false)
	}
}

// What gives a value to the variable of an If around it, at every depth.
func TestMachineGivesWithinIfs(t *testing.T) {
	gives := func(x, other string) []stmList {
		return []stmList{
			stms(set(x, number(1))),
			stms(invoke(0, []string{x, other}, code(number(1)))),
			stms(invoke(1, []string{other, x}, code(number(1)))),
		}
	}
	for _, x := range []string{"o", "p", "l", "$1"} {
		others := slices.DeleteFunc([]string{"o", "p", "l", "$1"}, func(s string) bool { return s == x })
		for i, give := range gives(x, others[0]) {
			free := gives(others[1], others[2])[i]
			for depth := range impl.MaxNest {
				what := []any{x, i, depth}
				wantMachine(t, what, owning(branches(x, nested(depth, give), nil)...), false)
				wantMachine(t, what, owning(branches(x, nil, nested(depth, give))...), false)
				wantMachine(t, what, owning(branches(x, nested(depth, free), nested(depth, free))...), true)
				inner := nested(depth, branches(x, give, nil))
				wantMachine(t, what, owning(inner...), false)
				inner = nested(depth, branches(x, nil, give))
				wantMachine(t, what, owning(inner...), false)
				inner = nested(depth, slices.Concat(give, branches(x, free, nil), give))
				wantMachine(t, what, owning(inner...), true)
			}
		}
	}
}

func TestMachineGivesBesideIfs(t *testing.T) {
	give, read := set("o", number(1)), set("p", name("o"))
	wantBodies(t, []machineCase{
		{"before and behind", slices.Concat(stms(give), branches("o", stms(read), stms(read)), stms(give)), true},
		{"in the first branch", branches("o", stms(give), stms(read)), false},
		{"in the second branch", branches("o", stms(read), stms(give)), false},
		{"the other variable", branches("o", stms(read), nil), true},
		{"a Save that reads it", branches("o", stms(save(0, name("o"))), nil), true},
		{"in an If on another within", branches("o", branches("i", stms(read, give), nil), nil), false},
		{"in an If on another around", branches("i", slices.Concat(stms(give), branches("o", nil, nil), stms(give)), nil), true},
		{"two Ifs on it, behind the inner one", branches("o", slices.Concat(branches("o", nil, nil), stms(give)), nil), false},
		{"two Ifs on it, in the second branch", branches("o", branches("o", nil, nil), stms(give)), false},
		{"two Ifs on it, behind both", slices.Concat(branches("o", branches("o", nil, nil), nil), stms(give)), true},
		{"the branches of two Ifs", slices.Concat(branches("o", stms(read), nil), branches("p", stms(give), nil)), true},
		{"the branches of an If within", branches("o", branches("p", nil, nil), nil), true},
		{"the variable of the inner If in the outer one", branches("o", slices.Concat(branches("p", nil, nil), stms(read)), nil), true},
		{"a call of a class with that name inside", branches("o", stms(invoke(0, []string{"p", "l"}, code(name("o")))), nil), true},
	})
}

// coded gives bodies with an expression at every place where one stands.
func coded(items itemList) []stmList {
	return []stmList{
		stms(set("o", items...)), stms(save(1, items...)), stms(invoke(0, []string{"o", "p"}, items)),
		branches("i", nil, stms(set("l", number(1)), set("o", items...))),
	}
}

func wantCode(t *testing.T, what any, items itemList, ok bool) {
	t.Helper()
	for _, body := range coded(items) {
		wantMachine(t, what, owning(body...), ok)
	}
}

// Val and Name of every Op.
func TestMachineItems(t *testing.T) {
	vals := []int{0, 1, 2, -1, impl.MaxInt, impl.MaxInt + 1, -impl.MaxInt, math.MaxInt, math.MinInt}
	names := []string{"", "i", "o", "$1", "x", "$2", "if"}
	for o := -2; o <= impl.OpMem+3; o++ {
		for _, val := range vals {
			for _, s := range names {
				ok := impl.OpInt <= o && o <= impl.OpIf || o == impl.OpMem
				switch o {
				case impl.OpInt:
					ok = ok && 0 <= val && val <= impl.MaxInt
				case impl.OpBool, impl.OpMem:
					ok = ok && (val == 0 || val == 1)
				default:
					ok = ok && val == 0
				}
				if o == impl.OpVar {
					ok = ok && (s == "i" || s == "o" || s == "$1")
				} else {
					ok = ok && s == ""
				}
				item := impl.Item{Op: o, Val: val, Name: s}
				wantCode(t, item, applied(item), ok)
			}
		}
	}
	for _, o := range []int{math.MinInt, -1000, 1000, math.MaxInt} {
		wantCode(t, o, code(op(o)), false)
		wantCode(t, o, code(number(1), number(2), op(o)), false)
	}
	none := leaf()
	none.Mems, none.Body = nil, stms(set("y", mem(0)))
	wantMachine(t, "no cell", machine(none), false)
}

func TestMachineCode(t *testing.T) {
	neg, add, choose := op(impl.OpNeg), op(impl.OpAdd), op(impl.OpIf)
	good := []itemList{
		code(mem(1)), code(name("c"), neg, op(impl.OpNot)), code(mem(0), mem(1), add), code(name("i"), name("o"), name("l"), choose),
		code(number(1), number(2), number(3), add, add), code(number(1), number(2), add, number(3), add),
	}
	bad := []itemList{
		nil, {}, code(number(1), number(2)), code(neg), code(neg, number(1)), code(number(1), add), code(number(1), add, number(2)),
		code(mem(0), mem(1)), code(number(1), number(2), choose), code(number(1), number(2), number(3), number(4), choose),
		code(number(1), number(2), add, add, number(3)),
		// Right in a source, not in a machine.
		code(name("i"), fby(0)), code(name("i"), fbyB(1)), code(name("i"), when("c")), code(name("i"), name("o"), merge("c")),
	}
	for i, items := range good {
		wantCode(t, i, items, true)
	}
	for i, items := range bad {
		wantCode(t, i, items, false)
	}
	for _, size := range []int{1, impl.MaxItems + 1, impl.MaxCode - 1, impl.MaxCode, impl.MaxCode + 1} {
		items := append(code(number(1)), slices.Repeat(code(neg), size-1)...)
		wantCode(t, size, items, size <= impl.MaxCode)
	}
	wide := slices.Concat(slices.Repeat(code(mem(0)), impl.MaxCode/2), slices.Repeat(code(add), impl.MaxCode/2-1))
	wantCode(t, "wide", wide, true)
	wantCode(t, "wide, and one more", append(wide, neg, neg), false)
}

func TestMachineUnusedFields(t *testing.T) {
	one := code(number(1))
	right := map[string]stmList{
		"set": stms(set("o", one...)), "save": stms(save(0, one...)), "call": stms(invoke(0, []string{"o", "p"}, one)), "if": branches("c", nil, nil),
	}
	fill := map[string]func(s *impl.Stm){
		"Name":    func(s *impl.Stm) { s.Name = "l" },
		"At":      func(s *impl.Stm) { s.At = 1 },
		"At -1":   func(s *impl.Stm) { s.At = -1 },
		"Outs":    func(s *impl.Stm) { s.Outs = []string{"o", "p"} },
		"no Outs": func(s *impl.Stm) { s.Outs = []string{""} },
		"Code":    func(s *impl.Stm) { s.Code = one },
		"Args":    func(s *impl.Stm) { s.Args = []itemList{one} },
		"no Args": func(s *impl.Stm) { s.Args = []itemList{nil} },
		"empty": func(s *impl.Stm) {
			s.Outs, s.Args = slices.Clip(append([]string{}, s.Outs...)), append([]itemList{}, s.Args...)
		},
	}
	used := map[string][]string{"set": {"Name", "Code", "empty"}, "save": {"At", "Code", "empty"}, "call": {"At", "Outs", "Args", "empty"}}
	for kind, body := range right {
		for field, change := range fill {
			for i := range body {
				changed := slices.Clone(body)
				change(&changed[i])
				ok := slices.Contains(used[kind], field) || kind == "if" && (field == "empty" || i == 0 && field == "Name")
				wantMachine(t, []any{kind, i, field}, owning(changed...), ok)
			}
		}
	}
}

// setting gives a class with so many Sets.
func setting(s string, count int) impl.Class {
	return impl.Class{Name: s, Outs: []impl.Slot{slot("o")}, Body: slices.Repeat(stms(set("o", number(1))), count)}
}

// repeating gives a class with so many calls of one before it, and so many Sets.
func repeating(s string, of, calls, sets int) impl.Class {
	c := setting(s, sets)
	c.Insts = []int{of}
	c.Body = append(c.Body, slices.Repeat(stms(invoke(0, []string{"o"})), calls)...)
	return c
}

func TestMachineCostLimit(t *testing.T) {
	for over, ok := range map[int]bool{-1: true, 0: true, 1: false} {
		wide := machine(setting("a", 999), repeating("b", 0, 399, 1000+over))
		wantMachine(t, []any{"wide", over}, wide, ok)
		// 9, 99, 999 and 400 * 1000.
		deep := machine(setting("a", 9), repeating("b", 0, 9, 9), repeating("c", 1, 9, 99), repeating("d", 2, 399, 1000+over))
		wantMachine(t, []any{"deep", over}, deep, ok)
		if ok && (impl.Bound(wide, 1) != impl.MaxCost+over || impl.Bound(deep, 3) != impl.MaxCost+over) {
			t.Error(impl.Bound(wide, 1), impl.Bound(deep, 3))
		}
		inIf := repeating("b", 0, 399, 1000+over-1)
		inIf.Ins, inIf.Body = []impl.Slot{slot("i")}, branches("i", inIf.Body, stms(set("o", number(1))))
		wantMachine(t, []any{"first branch", over}, machine(setting("a", 999), inIf), ok)
		inIf.Body = branches("i", nil, inIf.Body[1:len(inIf.Body)-3])
		wantMachine(t, []any{"second branch", over}, machine(setting("a", 999), inIf), ok)
		// A class that is too much counts also when nothing calls it.
		wantMachine(t, []any{"in the middle", over}, machine(append(slices.Clone(wide.Classes), setting("z", 1))...), ok)
	}
	// Two branches within the limit, though not together.
	half := repeating("b", 0, 399, 999)
	half.Ins, half.Body = []impl.Slot{slot("i")}, branches("i", half.Body, half.Body)
	wantMachine(t, "two branches", machine(setting("a", 999), half), true)
}

// doubling gives classes each of which has two of the one before.
func doubling(first impl.Class, count int) []impl.Class {
	classes := []impl.Class{first}
	for i := 1; i < count; i++ {
		c := setting("k"+strconv.Itoa(i), 0)
		c.Insts = []int{i - 1, i - 1}
		c.Body = stms(invoke(0, []string{"o"}), invoke(1, []string{"o"}))
		classes = append(classes, c)
	}
	return classes
}

func TestMachineLimitsAlongCalls(t *testing.T) {
	// Costs: 0, 2, 6, 14, .. 2^n - 2.
	classes := doubling(setting("k0", 0), impl.MaxClasses)
	wantMachine(t, "2^18 - 2", machine(classes[:18]...), true)
	wantMachine(t, "2^19 - 2", machine(classes[:19]...), false)
	wantMachine(t, "2^200 - 2", machine(classes...), false)
	for i := range classes {
		classes[i].Body = nil
	}
	wantMachine(t, "2^199 instances without a cell", machine(classes...), true)
	classes[0].Mems = []int{1}
	wantMachine(t, "2^14 cells", machine(classes[:15]...), true)
	wantMachine(t, "2^15 cells", machine(classes[:16]...), false)
	wantMachine(t, "2^199 cells", machine(classes...), false)
}

// keeping gives a class with so many cells, and so many instances of one before it.
func keeping(s string, cells, of, insts int) impl.Class {
	c := setting(s, 0)
	c.Mems, c.Insts = make([]int, cells), slices.Repeat([]int{of}, insts)
	return c
}

func TestMachineCellLimit(t *testing.T) {
	for over, ok := range map[int]bool{-1: true, 0: true, 1: false} {
		wide := machine(keeping("a", 999, 0, 0), keeping("b", 20+over, 0, 20))
		wantMachine(t, []any{"wide", over}, wide, ok)
		// 99, 9 + 10 * 99 and 20 + 20 * 999.
		deep := machine(keeping("a", 99, 0, 0), keeping("b", 9, 0, 10), keeping("c", 20+over, 1, 20))
		wantMachine(t, []any{"deep", over}, deep, ok)
		if ok && (impl.Cells(wide, 1) != impl.MaxCells+over || impl.Cells(deep, 2) != impl.MaxCells+over) {
			t.Error(impl.Cells(wide, 1), impl.Cells(deep, 2))
		}
	}
	// An instance that is never called has cells all the same, and so have two of them behind each other.
	most := machine(keeping("a", 1000, 0, 0), keeping("b", 0, 0, 20), keeping("c", 0, 1, 1))
	wantMachine(t, "one of the most", most, true)
	most.Classes[2].Insts = []int{1, 0}
	wantMachine(t, "one of the most and another", most, false)
}
