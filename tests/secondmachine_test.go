package tests

import (
	"regexp"
	"slices"

	"loop.example/s0043/impl"
)

// A second reading of 3.2 to 3.4: bodies stay flat lists, gone through with a stack of the Ifs around, and stepped by jumps.

var anyName = regexp.MustCompile(`^(?:[A-Za-z][A-Za-z0-9_]{0,39}|\$[1-9][0-9]{0,8})$`)

func isNameOf(s string) bool {
	return anyName.MatchString(s) && !slices.Contains(keywords, s)
}

func isValueOf(v int) bool {
	return v == wrapped(v)
}

func fits(m impl.Machine) bool {
	if len(m.Classes) < 1 || len(m.Classes) > impl.MaxClasses {
		return false
	}
	for k, c := range m.Classes {
		same := func(d impl.Class) bool { return d.Name == c.Name }
		if !isNameOf(c.Name) || slices.ContainsFunc(m.Classes[:k], same) || !listsFit(c, k) || !bodyFits(m, c) {
			return false
		}
		if cellsOf(m, k) > impl.MaxCells || boundOf(m, k) > impl.MaxCost {
			return false
		}
	}
	return true
}

func listsFit(c impl.Class, index int) bool {
	names := variables(c)
	good := len(c.Outs) > 0 && len(names) <= impl.MaxSlots && len(c.Mems) <= impl.MaxSlots && len(c.Insts) <= impl.MaxSlots
	for i, s := range names {
		good = good && isNameOf(s) && !slices.Contains(names[:i], s)
	}
	for _, s := range slices.Concat(c.Ins, c.Outs) {
		good = good && (s.Type == 1 || s.Type == 2)
	}
	for _, v := range c.Mems {
		good = good && isValueOf(v)
	}
	for _, k := range c.Insts {
		good = good && 0 <= k && k < index
	}
	return good
}

// aroundIf is an If whose End hasn't come yet.
type aroundIf struct {
	name   string
	inElse bool
}

func bodyFits(m impl.Machine, c impl.Class) bool {
	var open []aroundIf
	for _, s := range c.Body {
		if !statementFits(m, c, s, open) {
			return false
		}
		switch s.Kind {
		case impl.StmIf:
			open = append(open, aroundIf{name: s.Name})
		case impl.StmElse:
			open = append(open[:len(open)-1], aroundIf{open[len(open)-1].name, true})
		case impl.StmEnd:
			open = open[:len(open)-1]
		}
	}
	return len(open) == 0 && len(c.Body) <= impl.MaxStms
}

func statementFits(m impl.Machine, c impl.Class, s impl.Stm, open []aroundIf) bool {
	free := func(x string) bool {
		return !slices.ContainsFunc(open, func(a aroundIf) bool { return a.name == x })
	}
	canGive := func(x string) bool {
		return slices.Contains(slices.Concat(slotNames(c.Outs), c.Locs), x) && free(x)
	}
	depth := len(open)
	used := impl.Stm{Kind: s.Kind}
	good := false
	switch s.Kind {
	case impl.StmSet:
		used.Name, used.Code = s.Name, s.Code
		good = canGive(s.Name) && codeFits(c, s.Code)
	case impl.StmSave:
		used.At, used.Code = s.At, s.Code
		good = 0 <= s.At && s.At < len(c.Mems) && codeFits(c, s.Code)
	case impl.StmCall:
		used.At, used.Outs, used.Args = s.At, s.Outs, s.Args
		good = 0 <= s.At && s.At < len(c.Insts) && callFits(m.Classes[c.Insts[s.At]], c, s, canGive)
	case impl.StmIf:
		used.Name = s.Name
		good = slices.Contains(variables(c), s.Name)
	case impl.StmElse:
		good = depth > 0 && !open[depth-1].inElse
		depth--
	case impl.StmEnd:
		good = depth > 0 && open[depth-1].inElse
		depth--
	}
	return good && depth <= impl.MaxNest && sameStm(s, used)
}

func callFits(called, c impl.Class, s impl.Stm, canGive func(string) bool) bool {
	good := len(s.Outs) == len(called.Outs) && len(s.Args) == len(called.Ins)
	for i, x := range s.Outs {
		good = good && canGive(x) && !slices.Contains(s.Outs[:i], x)
	}
	for _, arg := range s.Args {
		good = good && codeFits(c, arg)
	}
	return good
}

func codeFits(c impl.Class, items itemList) bool {
	if len(items) < 1 || len(items) > impl.MaxCode {
		return false
	}
	left := 0
	for _, item := range items {
		val, text := false, item.Name == ""
		switch item.Op {
		case impl.OpInt:
			val = item.Val >= 0 && isValueOf(item.Val)
		case impl.OpBool:
			val = item.Val == 0 || item.Val == 1
		case impl.OpVar:
			val, text = item.Val == 0, slices.Contains(variables(c), item.Name)
		case impl.OpMem:
			val = 0 <= item.Val && item.Val < len(c.Mems)
		default:
			val = item.Val == 0 && impl.OpNeg <= item.Op && item.Op <= impl.OpIf
		}
		if !val || !text || left < arity(item.Op) {
			return false
		}
		left += 1 - arity(item.Op)
	}
	return left == 1
}

// cellsOf and boundOf are asked only of classes whose lists fit, and of small machines.
func cellsOf(m impl.Machine, class int) int {
	sum := len(m.Classes[class].Mems)
	for _, k := range m.Classes[class].Insts {
		sum += cellsOf(m, k)
	}
	return sum
}

func boundOf(m impl.Machine, class int) int {
	c := m.Classes[class]
	// Of each list that is open: its sum so far, and above it those of the first branches.
	sums := []int{0}
	var firsts []int
	for _, s := range c.Body {
		top := len(sums) - 1
		switch s.Kind {
		case impl.StmSet, impl.StmSave:
			sums[top]++
		case impl.StmCall:
			sums[top] += 1 + boundOf(m, c.Insts[s.At])
		case impl.StmIf:
			sums = append(sums, 0)
		case impl.StmElse:
			firsts = append(firsts, sums[top])
			sums[top] = 0
		case impl.StmEnd:
			greater := max(firsts[len(firsts)-1], sums[top])
			firsts = firsts[:len(firsts)-1]
			sums = sums[:top]
			sums[top-1] += 1 + greater
		}
	}
	return sums[0]
}

func firstState(m impl.Machine, class int) []int {
	state := slices.Clone(m.Classes[class].Mems)
	for _, k := range m.Classes[class].Insts {
		state = append(state, firstState(m, k)...)
	}
	return state
}

// stepFlat takes a step on a state of its own.
func stepFlat(m impl.Machine, class int, state, ins []int) (after, outs []int, cost int) {
	c := m.Classes[class]
	after = slices.Clone(state)
	values := map[string]int{}
	for i, in := range c.Ins {
		values[in.Name] = ins[i]
	}
	for at := 0; at < len(c.Body); at++ {
		s := c.Body[at]
		switch s.Kind {
		case impl.StmSet:
			values[s.Name] = valueOf(s.Code, values, after)
		case impl.StmSave:
			after[s.At] = valueOf(s.Code, values, after)
		case impl.StmCall:
			cost += callFlat(m, c, s, values, after)
		case impl.StmIf:
			if values[s.Name] == 0 {
				at = jump(c.Body, at, impl.StmElse)
			}
		case impl.StmElse:
			at = jump(c.Body, at, impl.StmEnd)
		}
		if s.Kind < impl.StmElse {
			cost++
		}
	}
	for _, o := range c.Outs {
		outs = append(outs, values[o.Name])
	}
	return after, outs, cost
}

// jump finds the next statement of a kind that doesn't belong to an If in between.
func jump(body stmList, at, kind int) int {
	inside := 0
	for i := at + 1; ; i++ {
		switch {
		case inside == 0 && body[i].Kind == kind:
			return i
		case body[i].Kind == impl.StmIf:
			inside++
		case body[i].Kind == impl.StmEnd:
			inside--
		}
	}
}

func callFlat(m impl.Machine, c impl.Class, s impl.Stm, values map[string]int, state []int) int {
	begin := len(c.Mems)
	for _, k := range c.Insts[:s.At] {
		begin += cellsOf(m, k)
	}
	called := c.Insts[s.At]
	part := state[begin : begin+cellsOf(m, called)]
	var args []int
	for _, arg := range s.Args {
		args = append(args, valueOf(arg, values, state))
	}
	after, outs, cost := stepFlat(m, called, part, args)
	copy(part, after)
	for i, x := range s.Outs {
		values[x] = outs[i]
	}
	return cost
}

func valueOf(items itemList, values map[string]int, state []int) int {
	last := items[len(items)-1]
	switch last.Op {
	case impl.OpVar:
		return values[last.Name]
	case impl.OpMem:
		return state[last.Val]
	}
	var operands []int
	for _, part := range parts(items, arity(last.Op)) {
		operands = append(operands, valueOf(part, values, state))
	}
	return oddResult(last, operands)
}

// oddResult is a result where any value may stand for true: those that do are made 1 first.
func oddResult(item impl.Item, v []int) int {
	v = slices.Clone(v)
	truths := map[int]int{impl.OpNot: 1, impl.OpAnd: 2, impl.OpOr: 2, impl.OpXor: 2, impl.OpIf: 1}[item.Op]
	for i := range v[:truths] {
		if v[i] != 0 {
			v[i] = 1
		}
	}
	return result(item, v)
}
