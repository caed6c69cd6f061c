package tests

import (
	"slices"
	"strconv"

	"loop.example/s0043/impl"
)

// Makers of statements, classes and machines.

func mem(k int) impl.Item { return impl.Item{Op: impl.OpMem, Val: k} }

func set(s string, items ...impl.Item) impl.Stm {
	return impl.Stm{Kind: impl.StmSet, Name: s, Code: items}
}

func save(at int, items ...impl.Item) impl.Stm {
	return impl.Stm{Kind: impl.StmSave, At: at, Code: items}
}

func invoke(at int, outs []string, args ...itemList) impl.Stm {
	return impl.Stm{Kind: impl.StmCall, At: at, Outs: outs, Args: args}
}

func ifOn(s string) impl.Stm { return impl.Stm{Kind: impl.StmIf, Name: s} }
func orElse() impl.Stm       { return impl.Stm{Kind: impl.StmElse} }
func endIf() impl.Stm        { return impl.Stm{Kind: impl.StmEnd} }

type stmList = []impl.Stm

func stms(list ...impl.Stm) stmList { return list }

// branches gives an If around its two lists.
func branches(s string, first, second stmList) stmList {
	return slices.Concat(stms(ifOn(s)), first, stms(orElse()), second, stms(endIf()))
}

func slot(s string) impl.Slot { return impl.Slot{Name: s, Type: impl.TypeInt} }

// numbered gives slots with a name of their own each.
func numbered(prefix string, count int) []impl.Slot {
	list := make([]impl.Slot, count)
	for i := range list {
		list[i] = slot(prefix + strconv.Itoa(i))
	}
	return list
}

func slotNames(slots []impl.Slot) []string {
	var names []string
	for _, s := range slots {
		names = append(names, s.Name)
	}
	return names
}

func variables(c impl.Class) []string {
	return slices.Concat(slotNames(c.Ins), slotNames(c.Outs), c.Locs)
}

// leaf is a class with an input, two outputs and a cell, to be called by others.
func leaf() impl.Class {
	return impl.Class{
		Name: "leaf", Ins: []impl.Slot{slot("x")}, Outs: []impl.Slot{slot("y"), {Name: "b", Type: impl.TypeBool}}, Mems: []int{7},
		Body: stms(set("y", mem(0), name("x"), op(impl.OpAdd)), set("b", name("x"), number(0), op(impl.OpGt)), save(0, name("y"))),
	}
}

// owner is a class of all kinds of lists, with an instance of a leaf, and this body.
func owner(body ...impl.Stm) impl.Class {
	return impl.Class{
		Name: "owner", Ins: []impl.Slot{slot("i"), {Name: "c", Type: impl.TypeBool}}, Outs: []impl.Slot{slot("o"), slot("p")},
		Locs: []string{"l", "$1"}, Mems: []int{3, -4}, Insts: []int{0, 0}, Body: body,
	}
}

func machine(classes ...impl.Class) impl.Machine {
	return impl.Machine{Classes: classes}
}

// owning is a machine of a leaf and an owner with this body.
func owning(body ...impl.Stm) impl.Machine {
	return machine(leaf(), owner(body...))
}

func sameMachine(a, b impl.Machine) bool {
	return slices.EqualFunc(a.Classes, b.Classes, func(c, d impl.Class) bool {
		return c.Name == d.Name && slices.Equal(c.Ins, d.Ins) && slices.Equal(c.Outs, d.Outs) && slices.Equal(c.Locs, d.Locs) &&
			slices.Equal(c.Mems, d.Mems) && slices.Equal(c.Insts, d.Insts) && slices.EqualFunc(c.Body, d.Body, sameStm)
	})
}

func sameStm(a, b impl.Stm) bool {
	return a.Kind == b.Kind && a.Name == b.Name && a.At == b.At && slices.Equal(a.Outs, b.Outs) && slices.Equal(a.Code, b.Code) &&
		slices.EqualFunc(a.Args, b.Args, func(x, y itemList) bool { return slices.Equal(x, y) })
}

func copiedMachine(m impl.Machine) impl.Machine {
	n := impl.Machine{Classes: slices.Clone(m.Classes)}
	for i := range n.Classes {
		c := &n.Classes[i]
		c.Ins, c.Outs, c.Locs = slices.Clone(c.Ins), slices.Clone(c.Outs), slices.Clone(c.Locs)
		c.Mems, c.Insts, c.Body = slices.Clone(c.Mems), slices.Clone(c.Insts), slices.Clone(c.Body)
		for j := range c.Body {
			s := &c.Body[j]
			s.Outs, s.Code, s.Args = slices.Clone(s.Outs), slices.Clone(s.Code), slices.Clone(s.Args)
			for k := range s.Args {
				s.Args[k] = slices.Clone(s.Args[k])
			}
		}
	}
	return n
}

// machinist makes random machines that are OK, with values of any type at any place.
type machinist struct {
	maker
	classes []impl.Class
	class   impl.Class
	// The variables of the Ifs around.
	held []string
}

func (m maker) machine() impl.Machine {
	k := &machinist{maker: m}
	names := m.distinct(1 + m.Intn(4))
	for _, s := range names {
		k.classes = append(k.classes, k.makeClass(s))
	}
	return machine(k.classes...)
}

func (m maker) distinct(count int) []string {
	names := []string{"x", "y", "c", "set", "endclass", "class", "neg", "$1", "$2", "$999999999", "X_9", "true1", "z0123456789012345678901234567890123456789"[:40]}
	m.Shuffle(len(names), func(i, j int) { names[i], names[j] = names[j], names[i] })
	return names[:count]
}

func (k *machinist) anyValue() int {
	return pick(k.maker, append(slices.Clone(ends), k.Intn(20)-10, k.Intn(1<<32)-1<<31))
}

func (k *machinist) makeClass(s string) impl.Class {
	ins, outs, locs := k.Intn(4), 1+k.Intn(3), k.Intn(4)
	names := k.distinct(ins + outs + locs)
	k.class = impl.Class{Name: s, Locs: names[ins+outs:]}
	for i, s := range names[:ins+outs] {
		made := impl.Slot{Name: s, Type: 1 + k.Intn(2)}
		if i < ins {
			k.class.Ins = append(k.class.Ins, made)
		} else {
			k.class.Outs = append(k.class.Outs, made)
		}
	}
	k.class.Mems = several(k.maker, 0, 3, k.anyValue)
	if len(k.classes) > 0 {
		k.class.Insts = several(k.maker, 0, 3, func() int { return k.Intn(len(k.classes)) })
	}
	k.class.Body = k.list(k.Intn(4))
	if k.Intn(20) == 0 {
		k.class.Body = append(k.class.Body, k.chain(impl.MaxNest)...)
	}
	return k.class
}

func (k *machinist) list(depth int) stmList {
	var list stmList
	for range k.Intn(4) {
		list = append(list, k.statement(depth)...)
	}
	return list
}

func (k *machinist) statement(depth int) stmList {
	switch k.Intn(5) {
	case 0:
		if len(k.class.Mems) > 0 {
			return stms(save(k.Intn(len(k.class.Mems)), k.code(3)...))
		}
	case 1:
		if len(k.class.Insts) > 0 {
			return k.invocation()
		}
	case 2, 3:
		if depth > 0 {
			return k.choice(func() stmList { return k.list(depth - 1) }, func() stmList { return k.list(depth - 1) })
		}
	}
	targets := k.targets()
	if len(targets) == 0 {
		return nil
	}
	return stms(set(pick(k.maker, targets), k.code(3)...))
}

func (k *machinist) choice(first, second func() stmList) stmList {
	on := pick(k.maker, variables(k.class))
	k.held = append(k.held, on)
	list := branches(on, first(), second())
	k.held = k.held[:len(k.held)-1]
	return list
}

// chain gives Ifs within each other, with little beside them.
func (k *machinist) chain(depth int) stmList {
	if depth == 0 {
		return k.statement(0)
	}
	deep, flat := func() stmList { return k.chain(depth - 1) }, func() stmList { return k.statement(0) }
	if k.Intn(2) == 0 {
		deep, flat = flat, deep
	}
	return append(k.choice(deep, flat), k.statement(0)...)
}

// targets gives what may be given a value within the Ifs around, in a random order.
func (k *machinist) targets() []string {
	names := slices.Concat(slotNames(k.class.Outs), k.class.Locs)
	names = slices.DeleteFunc(names, func(s string) bool { return slices.Contains(k.held, s) })
	k.Shuffle(len(names), func(i, j int) { names[i], names[j] = names[j], names[i] })
	return names
}

func (k *machinist) invocation() stmList {
	at := k.Intn(len(k.class.Insts))
	called := k.classes[k.class.Insts[at]]
	targets := k.targets()
	if len(targets) < len(called.Outs) {
		return nil
	}
	args := make([]itemList, len(called.Ins))
	for i := range args {
		args[i] = k.code(2)
	}
	return stms(invoke(at, targets[:len(called.Outs)], args...))
}

func (k *machinist) code(depth int) itemList {
	if depth == 0 || k.Intn(4) == 0 {
		leaves := []impl.Item{number(max(0, k.anyValue())), truth(k.Intn(2)), name(pick(k.maker, variables(k.class)))}
		if len(k.class.Mems) > 0 {
			leaves = append(leaves, mem(k.Intn(len(k.class.Mems))))
		}
		return code(pick(k.maker, leaves))
	}
	item := op(impl.OpNeg + k.Intn(impl.OpIf-impl.OpNeg+1))
	var items itemList
	for range arity(item.Op) {
		items = append(items, k.code(depth-1)...)
	}
	return append(items, item)
}

// valuesFor gives a state and inputs of the right sizes.
func (m maker) valuesFor(machine impl.Machine, class int) (state, ins []int) {
	k := &machinist{maker: m}
	for range cellsOf(machine, class) {
		state = append(state, k.anyValue())
	}
	for range machine.Classes[class].Ins {
		ins = append(ins, k.anyValue())
	}
	return state, ins
}

// altered changes a machine at so many random places.
func (m maker) altered(machine impl.Machine, times int) impl.Machine {
	machine = copiedMachine(machine)
	for range times {
		m.alter(machine)
	}
	return machine
}

func (m maker) alter(machine impl.Machine) {
	c := &machine.Classes[m.Intn(len(machine.Classes))]
	if len(c.Body) > 0 && m.Intn(4) > 0 {
		m.alterBody(c)
		return
	}
	names := append(variables(*c), "nowhere", "1")
	switch m.Intn(7) {
	case 0:
		c.Name = pick(m, append(slices.Clone(names), machine.Classes[0].Name))
	case 1:
		c.Ins = append(c.Ins, impl.Slot{Name: pick(m, names), Type: m.Intn(4)})
	case 2:
		c.Outs = c.Outs[:m.Intn(len(c.Outs)+1)]
	case 3:
		c.Locs = append(c.Locs, pick(m, names))
	case 4:
		c.Mems = append(c.Mems, pick(m, []int{1, -impl.MaxInt - 1, -impl.MaxInt - 2, impl.MaxInt, impl.MaxInt + 1}))
	case 5:
		c.Mems = c.Mems[:m.Intn(len(c.Mems)+1)]
	default:
		c.Insts = append(c.Insts, m.Intn(len(machine.Classes)+2)-1)
	}
	// A class without outputs may have no variable left for the next change.
	if len(c.Outs) == 0 {
		c.Outs = []impl.Slot{slot("nowhere")}
	}
}

func (m maker) alterBody(c *impl.Class) {
	i := m.Intn(len(c.Body))
	s := &c.Body[i]
	names := append(variables(*c), "", "nowhere")
	switch m.Intn(10) {
	case 0:
		c.Body = slices.Delete(c.Body, i, i+1)
	case 1:
		c.Body = slices.Insert(c.Body, i, pick(m, c.Body))
	case 2:
		j := m.Intn(len(c.Body))
		c.Body[i], c.Body[j] = c.Body[j], c.Body[i]
	case 3:
		s.Kind = m.Intn(8)
	case 4:
		s.Name = pick(m, names)
	case 5:
		s.At = m.Intn(4) - 1
	case 6:
		s.Outs = append(s.Outs, pick(m, names))
	case 7:
		s.Outs = several(m, len(s.Outs), len(s.Outs), func() string { return pick(m, names) })
	case 8:
		s.Args = append(s.Args, code(name(pick(m, names))))
	default:
		m.alterCode(s, names)
	}
}

func (m maker) alterCode(s *impl.Stm, names []string) {
	lists := append(slices.Clone(s.Args), s.Code)
	items := pick(m, lists)
	if len(items) == 0 {
		return
	}
	item := &items[m.Intn(len(items))]
	switch m.Intn(3) {
	case 0:
		item.Op = m.Intn(impl.OpMem + 2)
	case 1:
		item.Val = m.Intn(5) - 1
	default:
		item.Name = pick(m, names)
	}
}
