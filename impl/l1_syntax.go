package impl

import (
	"strconv"
	"strings"
)

const (
	MaxSource = 20000
	MaxName   = 40
	MaxInt    = 2147483647
	MaxNodes  = 200
	MaxVars   = 500
	MaxEqs    = 500
	MaxItems  = 3000
	MaxClock  = 8
)

const (
	TypeInt = iota + 1
	TypeBool
)

const (
	OpInt = iota + 1
	OpBool
	OpVar
	OpNeg
	OpNot
	OpAdd
	OpSub
	OpMul
	OpDiv
	OpMod
	OpEq
	OpNe
	OpLt
	OpLe
	OpGt
	OpGe
	OpAnd
	OpOr
	OpXor
	OpIf
	OpFby
	OpFbyB
	OpWhen
	OpMerge
	OpMem
)

const (
	ParseOK = iota
	ParseLong
	ParseLex
	ParseSyntax
	ParseMany
)

type Item struct {
	Op   int
	Val  int
	Name string
}

type Cond struct {
	Name string
	On   bool
}

type Var struct {
	Name  string
	Type  int
	Clock []Cond
}

type Equation struct {
	Lhs  []string
	Code []Item
	Call string
	Args [][]Item
}

type Node struct {
	Name string
	Ins  []Var
	Outs []Var
	Vars []Var
	Eqs  []Equation
}

type Program struct {
	Nodes []Node
}

// Levels of the operators with two operands, the loosest first.
const (
	levelOr = iota + 1
	levelAnd
	levelCompare
	levelSum
	levelProduct
	levelOperand
)

type operator struct {
	text  string
	level int
	op    int
}

var operators = [...]operator{
	{"or", levelOr, OpOr},
	{"xor", levelOr, OpXor},
	{"and", levelAnd, OpAnd},
	{"=", levelCompare, OpEq},
	{"<>", levelCompare, OpNe},
	{"<", levelCompare, OpLt},
	{"<=", levelCompare, OpLe},
	{">", levelCompare, OpGt},
	{">=", levelCompare, OpGe},
	{"+", levelSum, OpAdd},
	{"-", levelSum, OpSub},
	{"*", levelProduct, OpMul},
	{"/", levelProduct, OpDiv},
	{"mod", levelProduct, OpMod},
}

// fault is what a refusal of a text is thrown with, from however deep.
type fault struct {
	code int
	at   int
}

func (f fault) Error() string {
	return "parse code " + strconv.Itoa(f.code) + " at byte " + strconv.Itoa(f.at)
}

// faultOf lets anything but a fault fly on, so that no slip of the parser passes for an answer.
func faultOf(caught any) (int, int) {
	switch f := caught.(type) {
	case nil:
		return ParseOK, 0
	case fault:
		return f.code, f.at
	default:
		panic(caught)
	}
}

func Parse(src string) (program Program, code, at int) {
	defer func() {
		code, at = faultOf(recover())
	}()
	return parse(src), ParseOK, 0
}

func parse(src string) Program {
	if len(src) > MaxSource {
		panic(fault{ParseLong, 0})
	}
	p := &parser{tokens: cut(src)}
	program := p.program()
	// Whatever the grammar gives is well formed but for the counts.
	if !ShapeOK(program) {
		panic(fault{ParseMany, 0})
	}
	return program
}

// Kinds of tokens. The text of a NAME or a number is never that of a fixed token, so fixed ones are told apart by text alone.
const (
	tokenEnd = iota
	tokenName
	tokenNumber
	tokenFixed
)

type token struct {
	kind  int
	text  string
	value int
	at    int
}

func cut(src string) []token {
	var tokens []token
	at := 0
cutting:
	for at < len(src) {
		if isBlank(src[at]) {
			at++
			continue cutting
		}
		if strings.HasPrefix(src[at:], "--") {
			for src[at] != '\n' {
				at++
				if at == len(src) {
					break cutting
				}
			}
			continue cutting
		}
		t := tokenAt(src, at)
		tokens = append(tokens, t)
		at += len(t.text)
	}
	// The end stands where a text that is only too short is refused.
	return append(tokens, token{kind: tokenEnd, at: len(src)})
}

func tokenAt(src string, at int) token {
	switch {
	case isLetter(src[at]):
		return wordAt(src, at)
	case isDigit(src[at]):
		return numberAt(src, at)
	default:
		return symbolAt(src, at)
	}
}

func wordAt(src string, at int) token {
	end := at
	for end < len(src) && isWordByte(src[end]) {
		end++
	}
	if end-at > MaxName {
		panic(fault{ParseLex, at})
	}
	text := src[at:end]
	if isKeyword(text) {
		return token{kind: tokenFixed, text: text, at: at}
	}
	return token{kind: tokenName, text: text, at: at}
}

func numberAt(src string, at int) token {
	// Refused as soon as it is too great: a long row of digits would pass the range of any integer.
	var value int64
	end := at
	for ; end < len(src) && isDigit(src[end]); end++ {
		value = value*10 + int64(src[end]-'0')
		if value > MaxInt {
			panic(fault{ParseLex, at})
		}
	}
	return token{kind: tokenNumber, text: src[at:end], value: int(value), at: at}
}

func symbolAt(src string, at int) token {
	for size := min(2, len(src)-at); size > 0; size-- {
		if text := src[at : at+size]; isSymbol(text) {
			return token{kind: tokenFixed, text: text, at: at}
		}
	}
	panic(fault{ParseLex, at})
}

func isBlank(b byte) bool {
	return b == 9 || b == 10 || b == 13 || b == 32
}

func isLetter(b byte) bool {
	return 'A' <= b && b <= 'Z' || 'a' <= b && b <= 'z'
}

func isDigit(b byte) bool {
	return '0' <= b && b <= '9'
}

func isWordByte(b byte) bool {
	return isLetter(b) || isDigit(b) || b == '_'
}

func isSymbol(text string) bool {
	switch text {
	case "(", ")", ":", ";", ",", "=", "<>", "<", "<=", ">", ">=", "+", "-", "*", "/":
		return true
	}
	return false
}

func isKeyword(word string) bool {
	switch word {
	case "node", "returns", "var", "let", "tel", "int", "bool", "when", "whenot", "if", "then", "else",
		"fby", "merge", "true", "false", "and", "or", "xor", "not", "mod":
		return true
	}
	return false
}

// parser reads tokens by the grammar. Items go out as they are read, so that long and deep expressions are never copied.
type parser struct {
	tokens []token
	next   int
	items  []Item
}

func (p *parser) ahead(n int) token {
	return p.tokens[min(p.next+n, len(p.tokens)-1)]
}

func (p *parser) sees(text string) bool {
	return p.ahead(0).text == text
}

func (p *parser) takes(text string) bool {
	if !p.sees(text) {
		return false
	}
	p.next++
	return true
}

func (p *parser) want(text string) {
	if !p.takes(text) {
		p.refuse()
	}
}

func (p *parser) refuse() {
	panic(fault{ParseSyntax, p.ahead(0).at})
}

func (p *parser) name() string {
	t := p.ahead(0)
	if t.kind != tokenName {
		p.refuse()
	}
	p.next++
	// A piece of the source would share its memory.
	return strings.Clone(t.text)
}

// separated reads one or more things with a sign between them.
func separated[T any](p *parser, sign string, one func() T) []T {
	list := []T{one()}
	for p.takes(sign) {
		list = append(list, one())
	}
	return list
}

// ended reads one or more things, each with its semicolon, up to the word that comes after the last.
func ended[T any](p *parser, word string, one func() T) []T {
	var list []T
	for len(list) == 0 || !p.sees(word) {
		list = append(list, one())
		p.want(";")
	}
	return list
}

func (p *parser) program() Program {
	nodes := []Node{p.node()}
	for p.ahead(0).kind != tokenEnd {
		nodes = append(nodes, p.node())
	}
	return Program{Nodes: nodes}
}

func (p *parser) node() Node {
	p.want("node")
	n := Node{Name: p.name()}
	p.want("(")
	if !p.sees(")") {
		n.Ins = separated(p, ";", p.port)
	}
	p.want(")")
	p.want("returns")
	p.want("(")
	n.Outs = separated(p, ";", p.port)
	p.want(")")
	if p.takes("var") {
		n.Vars = ended(p, "let", p.local)
	}
	p.want("let")
	n.Eqs = ended(p, "tel", p.equation)
	p.want("tel")
	return n
}

func (p *parser) port() Var {
	name := p.name()
	p.want(":")
	if p.takes("bool") {
		return Var{Name: name, Type: TypeBool}
	}
	p.want("int")
	return Var{Name: name, Type: TypeInt}
}

func (p *parser) local() Var {
	v := p.port()
	v.Clock = p.conditions()
	return v
}

func (p *parser) conditions() []Cond {
	var conds []Cond
	for {
		on := p.takes("when")
		if !on && !p.takes("whenot") {
			return conds
		}
		conds = append(conds, Cond{Name: p.name(), On: on})
	}
}

func (p *parser) equation() Equation {
	names := separated(p, ",", p.name)
	p.want("=")
	if len(names) > 1 || p.ahead(0).kind == tokenName && p.ahead(1).text == "(" {
		return p.call(names)
	}
	return Equation{Lhs: names, Code: p.code()}
}

func (p *parser) call(names []string) Equation {
	e := Equation{Lhs: names, Call: p.name()}
	p.want("(")
	if !p.sees(")") {
		e.Args = separated(p, ",", p.code)
	}
	p.want(")")
	return e
}

func (p *parser) code() []Item {
	p.items = nil
	p.expression()
	return p.items
}

func (p *parser) emit(item Item) {
	p.items = append(p.items, item)
}

func (p *parser) expression() {
	if p.takes("if") {
		p.choice()
		return
	}
	if fby, size := p.delayAhead(); size > 0 {
		p.next += size
		p.expression()
		p.emit(fby)
		return
	}
	climb(p, levelOr)
}

func (p *parser) choice() {
	p.expression()
	p.want("then")
	p.expression()
	p.want("else")
	p.expression()
	p.emit(Item{Op: OpIf})
}

// delayAhead gives the item of a C with its fby and the number of their tokens, 0 if they don't stand here: what a C is
// can only be told from the token after it.
func (p *parser) delayAhead() (Item, int) {
	var fby Item
	var size int
	first, second := p.ahead(0), p.ahead(1)
	switch {
	case first.kind == tokenNumber:
		fby, size = Item{Op: OpFby, Val: first.value}, 2
	case first.text == "-" && second.kind == tokenNumber:
		fby, size = Item{Op: OpFby, Val: -second.value}, 3
	case first.text == "true":
		fby, size = Item{Op: OpFbyB, Val: 1}, 2
	case first.text == "false":
		fby, size = Item{Op: OpFbyB}, 2
	}
	if size == 0 || p.ahead(size-1).text != "fby" {
		return Item{}, 0
	}
	return fby, size
}

// climber is all that climb asks of a reader; O is what tells the reader's operators apart.
type climber[O any] interface {
	operand()
	operator(level int) (O, bool)
	join(sign O)
}

// climb reads one level and all tighter ones, joining from the left. Operators of levelCompare don't repeat: the next one
// is left standing, for the caller to refuse at its place.
func climb[O any, R climber[O]](reader R, level int) {
	if level == levelOperand {
		reader.operand()
		return
	}
	climb(reader, level+1)
	for {
		sign, found := reader.operator(level)
		if !found {
			return
		}
		climb(reader, level+1)
		reader.join(sign)
		if level == levelCompare {
			return
		}
	}
}

func (p *parser) operator(level int) (operator, bool) {
	for _, sign := range operators {
		if sign.level == level && p.takes(sign.text) {
			return sign, true
		}
	}
	return operator{}, false
}

func (p *parser) join(sign operator) {
	p.emit(Item{Op: sign.op})
}

func (p *parser) operand() {
	switch {
	case p.takes("-"):
		p.operand()
		p.emit(Item{Op: OpNeg})
	case p.takes("not"):
		p.operand()
		p.emit(Item{Op: OpNot})
	default:
		p.sampled()
	}
}

func (p *parser) sampled() {
	p.primary()
	for _, c := range p.conditions() {
		when := Item{Op: OpWhen, Name: c.Name}
		if c.On {
			when.Val = 1
		}
		p.emit(when)
	}
}

func (p *parser) primary() {
	first := p.ahead(0)
	switch {
	case first.kind == tokenName:
		p.emit(Item{Op: OpVar, Name: p.name()})
	case first.kind == tokenNumber:
		p.next++
		p.emit(Item{Op: OpInt, Val: first.value})
	case p.takes("true"):
		p.emit(Item{Op: OpBool, Val: 1})
	case p.takes("false"):
		p.emit(Item{Op: OpBool})
	case p.takes("("):
		p.expression()
		p.want(")")
	case p.takes("merge"):
		name := p.name()
		p.primary()
		p.primary()
		p.emit(Item{Op: OpMerge, Name: name})
	default:
		p.refuse()
	}
}

func ShapeOK(p Program) bool {
	return 1 <= len(p.Nodes) && len(p.Nodes) <= MaxNodes && every(p.Nodes, nodeOK)
}

func every[T any](list []T, holds func(T) bool) bool {
	for _, one := range list {
		if !holds(one) {
			return false
		}
	}
	return true
}

func nodeOK(n Node) bool {
	if len(n.Outs) == 0 || len(n.Ins)+len(n.Outs)+len(n.Vars) > MaxVars {
		return false
	}
	if len(n.Eqs) == 0 || len(n.Eqs) > MaxEqs {
		return false
	}
	return nameOK(n.Name) && every(n.Ins, portOK) && every(n.Outs, portOK) && every(n.Vars, varOK) &&
		every(n.Eqs, equationOK)
}

func portOK(v Var) bool {
	return len(v.Clock) == 0 && varOK(v)
}

func varOK(v Var) bool {
	return nameOK(v.Name) && typeOK(v.Type) && len(v.Clock) <= MaxClock && every(v.Clock, condOK)
}

func typeOK(t int) bool {
	return t == TypeInt || t == TypeBool
}

func condOK(c Cond) bool {
	return nameOK(c.Name)
}

func equationOK(e Equation) bool {
	if len(e.Lhs) == 0 || len(e.Lhs) > MaxVars || len(e.Args) > MaxVars || !every(e.Lhs, nameOK) {
		return false
	}
	if e.Call == "" {
		return len(e.Lhs) == 1 && len(e.Args) == 0 && codeOK(e.Code)
	}
	return nameOK(e.Call) && len(e.Code) == 0 && every(e.Args, codeOK)
}

func nameOK(name string) bool {
	return isName(name) || isFresh(name)
}

func isName(name string) bool {
	if name == "" || len(name) > MaxName || !isLetter(name[0]) || isKeyword(name) {
		return false
	}
	return every([]byte(name), isWordByte)
}

func isFresh(name string) bool {
	digits, found := strings.CutPrefix(name, "$")
	if !found || len(digits) < 1 || len(digits) > 9 || digits[0] == '0' {
		return false
	}
	return every([]byte(digits), isDigit)
}

func codeOK(code []Item) bool {
	return len(code) <= MaxItems && every(code, itemOK) && worksOut(code)
}

func itemOK(item Item) bool {
	if item.Op < OpInt || item.Op > OpMerge {
		return false
	}
	least, most := valueRange(item.Op)
	return least <= item.Val && item.Val <= most && itemNameOK(item)
}

func itemNameOK(item Item) bool {
	switch item.Op {
	case OpVar, OpWhen, OpMerge:
		return nameOK(item.Name)
	default:
		return item.Name == ""
	}
}

func valueRange(op int) (int, int) {
	switch op {
	case OpInt:
		return 0, MaxInt
	case OpFby:
		return -MaxInt, MaxInt
	case OpBool, OpFbyB, OpWhen:
		return 0, 1
	default:
		return 0, 0
	}
}

func operandCount(op int) int {
	switch op {
	case OpInt, OpBool, OpVar, OpMem:
		return 0
	case OpNeg, OpNot, OpFby, OpFbyB, OpWhen:
		return 1
	case OpIf:
		return 3
	default:
		return 2
	}
}

func worksOut(code []Item) bool {
	results := 0
	for _, item := range code {
		taken := operandCount(item.Op)
		if taken > results {
			return false
		}
		results += 1 - taken
	}
	return results == 1
}

func Print(p Program) string {
	if !ShapeOK(p) {
		return ""
	}
	var out strings.Builder
	for _, n := range p.Nodes {
		writeNode(&out, n)
	}
	return out.String()
}

func writeNode(out *strings.Builder, n Node) {
	out.WriteString("node " + n.Name + "(" + declsText(n.Ins) + ") returns (" + declsText(n.Outs) + ")\n")
	if len(n.Vars) > 0 {
		out.WriteString("var " + declsText(n.Vars) + ";\n")
	}
	out.WriteString("let\n")
	for _, e := range n.Eqs {
		writeEquation(out, e)
	}
	out.WriteString("tel\n")
}

func declsText(vars []Var) string {
	decls := make([]string, len(vars))
	for i, v := range vars {
		decls[i] = declText(v)
	}
	return strings.Join(decls, "; ")
}

func declText(v Var) string {
	text := v.Name + ": " + typeText(v.Type)
	for _, c := range v.Clock {
		text += condText(c)
	}
	return text
}

func typeText(t int) string {
	if t == TypeBool {
		return "bool"
	}
	return "int"
}

func condText(c Cond) string {
	if c.On {
		return " when " + c.Name
	}
	return " whenot " + c.Name
}

func writeEquation(out *strings.Builder, e Equation) {
	out.WriteString("  " + strings.Join(e.Lhs, ", ") + " = ")
	if e.Call == "" {
		writeCode(out, e.Code)
	} else {
		writeCall(out, e)
	}
	out.WriteString(";\n")
}

func writeCall(out *strings.Builder, e Equation) {
	out.WriteString(e.Call + "(")
	for i, arg := range e.Args {
		if i > 0 {
			out.WriteString(", ")
		}
		writeCode(out, arg)
	}
	out.WriteString(")")
}

func writeCode(out *strings.Builder, code []Item) {
	writePart(out, code, beginnings(code), len(code)-1)
}

// beginnings gives for each item the index at which the part that it ends begins, so that operands are found from their
// item without being cut out or copied.
func beginnings(code []Item) []int {
	begins := make([]int, len(code))
	for i, item := range code {
		begin := i
		for range operandCount(item.Op) {
			begin = begins[begin-1]
		}
		begins[i] = begin
	}
	return begins
}

// writePart goes no deeper than an expression has items.
func writePart(out *strings.Builder, code []Item, begins []int, last int) {
	texts := textsAround(code[last])
	ends := make([]int, len(texts)-1)
	end := last - 1
	for i := len(ends) - 1; i >= 0; i-- {
		ends[i] = end
		end = begins[end] - 1
	}
	for i, end := range ends {
		out.WriteString(texts[i])
		writePart(out, code, begins, end)
	}
	out.WriteString(texts[len(ends)])
}

// textsAround gives what stands before, between and after the operands of an item.
func textsAround(item Item) []string {
	switch item.Op {
	case OpInt:
		return []string{strconv.Itoa(item.Val)}
	case OpBool:
		return []string{truthText(item.Val)}
	case OpVar:
		return []string{item.Name}
	case OpNeg:
		return []string{"(- ", ")"}
	case OpNot:
		return []string{"(not ", ")"}
	case OpIf:
		return []string{"(if ", " then ", " else ", ")"}
	case OpFby:
		return []string{"(" + strconv.Itoa(item.Val) + " fby ", ")"}
	case OpFbyB:
		return []string{"(" + truthText(item.Val) + " fby ", ")"}
	case OpWhen:
		return []string{"(", condText(Cond{Name: item.Name, On: item.Val == 1}) + ")"}
	case OpMerge:
		return []string{"(merge " + item.Name + " ", " ", ")"}
	default:
		return []string{"(", " " + signText(item.Op) + " ", ")"}
	}
}

func truthText(val int) string {
	if val == 1 {
		return "true"
	}
	return "false"
}

func signText(op int) string {
	for _, sign := range operators {
		if sign.op == op {
			return sign.text
		}
	}
	return ""
}
