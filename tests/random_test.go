package tests

import (
	"math/rand"
	"slices"
	"strconv"
	"strings"

	"loop.example/s0043/impl"
)

// maker makes programs that are OK, and texts of them that a person might have written.
type maker struct {
	*rand.Rand
}

func newMaker(seed int64) maker {
	return maker{rand.New(rand.NewSource(seed))}
}

func pick[T any](m maker, list []T) T {
	return list[m.Intn(len(list))]
}

func several[T any](m maker, least, most int, one func() T) []T {
	var list []T
	for range least + m.Intn(most-least+1) {
		list = append(list, one())
	}
	return list
}

func (m maker) name() string {
	return pick(m, []string{"x", "y", "c", "d", "X9", "a_b_", "Node", "nodes", "i", "whenott", "fby1", strings.Repeat("n", impl.MaxName)})
}

func (m maker) port() impl.Var {
	return impl.Var{Name: m.name(), Type: 1 + m.Intn(2)}
}

func (m maker) local() impl.Var {
	v := m.port()
	v.Clock = several(m, 0, 3, func() impl.Cond { return impl.Cond{Name: m.name(), On: m.Intn(2) == 0} })
	return v
}

func (m maker) value() int {
	return pick(m, []int{0, 1, 5, 10, 65536, impl.MaxInt, m.Intn(impl.MaxInt)})
}

// expression gives the items of a tree of at most that depth.
func (m maker) expression(depth int) itemList {
	if depth == 0 || m.Intn(6) == 0 {
		return code(pick(m, []impl.Item{number(m.value()), truth(m.Intn(2)), name(m.name()), name(m.name())}))
	}
	item := impl.Item{Op: impl.OpNeg + m.Intn(impl.OpMerge-impl.OpNeg+1)}
	operands := 2
	switch item.Op {
	case impl.OpNeg, impl.OpNot:
		operands = 1
	case impl.OpIf:
		operands = 3
	case impl.OpFby:
		operands = 1
		item.Val = m.value() * (1 - 2*m.Intn(2))
	case impl.OpFbyB:
		operands = 1
		item.Val = m.Intn(2)
	case impl.OpWhen:
		operands = 1
		item.Val, item.Name = m.Intn(2), m.name()
	case impl.OpMerge:
		item.Name = m.name()
	}
	var items itemList
	for range operands {
		items = append(items, m.expression(depth-1)...)
	}
	return append(items, item)
}

func (m maker) equation() impl.Equation {
	depth := m.Intn(5)
	if m.Intn(3) > 0 {
		return plain(m.name(), m.expression(depth)...)
	}
	args := several(m, 0, 3, func() itemList { return m.expression(depth) })
	return call(several(m, 1, 3, m.name), m.name(), args...)
}

func (m maker) node() impl.Node {
	return impl.Node{
		Name: m.name(),
		Ins:  several(m, 0, 2, m.port),
		Outs: several(m, 1, 2, m.port),
		Vars: several(m, 0, 3, m.local),
		Eqs:  several(m, 1, 4, m.equation),
	}
}

func (m maker) program() impl.Program {
	return impl.Program{Nodes: several(m, 1, 3, m.node)}
}

// writer gives the tokens of a program, with no more parentheses than the grammar asks for, but some at random.
type writer struct {
	maker
	tokens []string
}

func (w *writer) put(tokens ...string) {
	w.tokens = append(w.tokens, tokens...)
}

func (m maker) tokensOf(p impl.Program) []string {
	w := &writer{maker: m}
	for _, n := range p.Nodes {
		w.put("node", n.Name, "(")
		w.decls(n.Ins, false)
		w.put(")", "returns", "(")
		w.decls(n.Outs, false)
		w.put(")")
		if len(n.Vars) > 0 {
			w.put("var")
			w.decls(n.Vars, true)
		}
		w.put("let")
		for _, e := range n.Eqs {
			w.equation(e)
		}
		w.put("tel")
	}
	return w.tokens
}

func (w *writer) decls(vars []impl.Var, ended bool) {
	for i, v := range vars {
		if i > 0 && !ended {
			w.put(";")
		}
		w.put(v.Name, ":", []string{"int", "bool"}[v.Type-1])
		for _, c := range v.Clock {
			w.put(whenWord(c.On), c.Name)
		}
		if ended {
			w.put(";")
		}
	}
}

func whenWord(on bool) string {
	if on {
		return "when"
	}
	return "whenot"
}

func (w *writer) equation(e impl.Equation) {
	w.put(strings.Split(strings.Join(e.Lhs, " , "), " ")...)
	w.put("=")
	if e.Call == "" {
		w.expression(e.Code, 0)
	} else {
		w.put(e.Call, "(")
		for i, arg := range e.Args {
			if i > 0 {
				w.put(",")
			}
			w.expression(arg, 0)
		}
		w.put(")")
	}
	w.put(";")
}

// signs and their levels, by 1.3, from OpAdd to OpXor.
var (
	signs  = strings.Fields("+ - * / mod = <> < <= > >= and or xor")
	levels = []int{4, 4, 5, 5, 5, 3, 3, 3, 3, 3, 3, 2, 1, 1}
)

// parts cuts an expression into the operands of its last item.
func parts(items itemList, count int) []itemList {
	cuts := make([]itemList, count)
	end := len(items) - 1
	for k := count - 1; k >= 0; k-- {
		begin := end
		for missing := 1; missing > 0; {
			begin--
			missing += arity(items[begin].Op) - 1
		}
		cuts[k] = items[begin:end]
		end = begin
	}
	return cuts
}

func arity(op int) int {
	return []int{0, 0, 0, 0, 1, 1, 2, 2, 2, 2, 2, 2, 2, 2, 2, 2, 2, 2, 2, 2, 3, 1, 1, 1, 2, 0}[op]
}

func (w *writer) expression(items itemList, least int) {
	last := items[len(items)-1]
	level := levelOf(last)
	if level < least || w.Intn(8) == 0 {
		w.put("(")
		defer w.put(")")
	}
	operands := parts(items, arity(last.Op))
	switch last.Op {
	case impl.OpInt:
		w.put(strings.Repeat("0", w.Intn(2)) + strconv.Itoa(last.Val))
	case impl.OpBool:
		w.put(strconv.FormatBool(last.Val == 1))
	case impl.OpVar:
		w.put(last.Name)
	case impl.OpNeg, impl.OpNot:
		w.put([]string{"-", "not"}[last.Op-impl.OpNeg])
		w.expression(operands[0], 6)
	case impl.OpIf:
		for k, word := range []string{"if", "then", "else"} {
			w.put(word)
			w.expression(operands[k], 0)
		}
	case impl.OpFby:
		if last.Val < 0 {
			w.put("-")
		}
		w.put(strings.TrimPrefix(strconv.Itoa(last.Val), "-"), "fby")
		w.expression(operands[0], 0)
	case impl.OpFbyB:
		w.put(strconv.FormatBool(last.Val == 1), "fby")
		w.expression(operands[0], 0)
	case impl.OpWhen:
		w.expression(operands[0], 7)
		w.put(whenWord(last.Val == 1), last.Name)
	case impl.OpMerge:
		w.put("merge", last.Name)
		w.expression(operands[0], 8)
		w.expression(operands[1], 8)
	default:
		leftmost := level
		if level == 3 {
			leftmost = 4
		}
		w.expression(operands[0], leftmost)
		w.put(signs[last.Op-impl.OpAdd])
		w.expression(operands[1], level+1)
	}
}

func levelOf(item impl.Item) int {
	switch item.Op {
	case impl.OpIf, impl.OpFby, impl.OpFbyB:
		return 0
	case impl.OpNeg, impl.OpNot:
		return 6
	case impl.OpWhen:
		return 7
	case impl.OpInt, impl.OpBool, impl.OpVar, impl.OpMerge:
		return 8
	}
	return levels[item.Op-impl.OpAdd]
}

// laid joins tokens by blanks and comments of all kinds, or by nothing where two stay two, and gives the offset of each.
func (m maker) laid(tokens []string) (string, []int) {
	gaps := []string{" ", "\t", "\r\n", "\n", "  ", "--\n", " -- # $ -- \"\x00\xff node\n"}
	text := pick(m, []string{"", "", " ", "-- first\n"})
	var offsets []int
	for i, token := range tokens {
		if i > 0 && (glues(tokens[i-1], token) || m.Intn(2) == 0) {
			text += pick(m, gaps)
		}
		// A sign right before a comment would begin it one byte early.
		if strings.HasSuffix(text, "---\n") {
			text = strings.TrimSuffix(text, "--\n") + " --\n"
		}
		offsets = append(offsets, len(text))
		text += token
	}
	return text + pick(m, []string{"", "", "\n", " -- last"}), offsets
}

func glues(left, right string) bool {
	if isWord(left[len(left)-1]) && isWord(right[0]) {
		return true
	}
	return slices.Contains([]string{"<>", "<=", ">=", "--"}, left+right[:1])
}

func isWord(b byte) bool {
	return b == '_' || '0' <= b && b <= '9' || 'A' <= b && b <= 'Z' || 'a' <= b && b <= 'z'
}
