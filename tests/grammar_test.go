package tests

import (
	"strings"
	"testing"

	"loop.example/s0043/impl"
)

// The grammar of 1.3, rule by rule. A table reader goes by it, without any choice or looking ahead, and so tells at which
// token a text stops being the beginning of a program.
const grammar = `
program = node
program = program node
node = "node" NAME "(" ins ")" "returns" "(" decls ")" vars "let" eqs "tel"
ins =
ins = decls
decls = decl
decls = decls ";" decl
decl = NAME ":" type
vars =
vars = "var" vdecls
vdecls = vdecl ";"
vdecls = vdecls vdecl ";"
vdecl = NAME ":" type
vdecl = vdecl "when" NAME
vdecl = vdecl "whenot" NAME
type = "int"
type = "bool"
eqs = eq ";"
eqs = eqs eq ";"
eq = NAME "=" call
eq = NAME "=" E
eq = NAME "," names "=" call
names = NAME
names = names "," NAME
call = NAME "(" ")"
call = NAME "(" args ")"
args = E
args = args "," E
E = "if" E "then" E "else" E
E = C "fby" E
E = L1
C = NUMBER
C = "-" NUMBER
C = "true"
C = "false"
L1 = L2
L1 = L1 "or" L2
L1 = L1 "xor" L2
L2 = L3
L2 = L2 "and" L3
L3 = L4
L3 = L4 "=" L4
L3 = L4 "<>" L4
L3 = L4 "<" L4
L3 = L4 "<=" L4
L3 = L4 ">" L4
L3 = L4 ">=" L4
L4 = L5
L4 = L4 "+" L5
L4 = L4 "-" L5
L5 = L6
L5 = L5 "*" L6
L5 = L5 "/" L6
L5 = L5 "mod" L6
L6 = "-" L6
L6 = "not" L6
L6 = L7
L7 = L8
L7 = L7 "when" NAME
L7 = L7 "whenot" NAME
L8 = NUMBER
L8 = "true"
L8 = "false"
L8 = NAME
L8 = "(" E ")"
L8 = "merge" NAME L8 L8
`

type rule struct {
	left  string
	right []string
}

// state is a rule of which so much has been seen, begun at a set.
type state struct {
	rule, dot, begun int
}

// chart is a table reader by Earley's method: one set of states for each token that was fed, and the first.
type chart struct {
	rules []rule
	heads map[string][]int
	sets  [][]state
}

func newChart() *chart {
	c := &chart{heads: map[string][]int{}}
	for _, line := range strings.Split(strings.TrimSpace(grammar), "\n") {
		words := strings.Fields(line)
		c.heads[words[0]] = append(c.heads[words[0]], len(c.rules))
		c.rules = append(c.rules, rule{words[0], words[2:]})
	}
	var first []state
	for _, r := range c.heads["program"] {
		first = append(first, state{rule: r})
	}
	c.sets = append(c.sets, first)
	c.close()
	return c
}

func (c *chart) next(s state) string {
	if right := c.rules[s.rule].right; s.dot < len(right) {
		return right[s.dot]
	}
	return ""
}

// close adds what the states of the last set ask for, and what they complete.
func (c *chart) close() {
	last := len(c.sets) - 1
	seen := map[state]bool{}
	for _, s := range c.sets[last] {
		seen[s] = true
	}
	add := func(s state) {
		if !seen[s] {
			seen[s] = true
			c.sets[last] = append(c.sets[last], s)
		}
	}
	for i := 0; i < len(c.sets[last]); i++ {
		s := c.sets[last][i]
		if want := c.next(s); want != "" {
			for _, r := range c.heads[want] {
				add(state{rule: r, begun: last})
				if len(c.rules[r].right) == 0 {
					add(state{s.rule, s.dot + 1, s.begun})
				}
			}
			continue
		}
		for j := 0; j < len(c.sets[s.begun]); j++ {
			if from := c.sets[s.begun][j]; c.next(from) == c.rules[s.rule].left {
				add(state{from.rule, from.dot + 1, from.begun})
			}
		}
	}
}

// feed takes a token, or tells that no program goes on with it.
func (c *chart) feed(token string) bool {
	kind := kindOf(token)
	var set []state
	for _, s := range c.sets[len(c.sets)-1] {
		if c.next(s) == kind {
			set = append(set, state{s.rule, s.dot + 1, s.begun})
		}
	}
	if len(set) == 0 {
		return false
	}
	c.sets = append(c.sets, set)
	c.close()
	return true
}

func (c *chart) unfeed() {
	c.sets = c.sets[:len(c.sets)-1]
}

func (c *chart) whole() bool {
	for _, s := range c.sets[len(c.sets)-1] {
		if c.next(s) == "" && s.begun == 0 && c.rules[s.rule].left == "program" {
			return true
		}
	}
	return false
}

func kindOf(token string) string {
	for _, fixed := range append(keywords, symbols...) {
		if token == fixed {
			return `"` + token + `"`
		}
	}
	if '0' <= token[0] && token[0] <= '9' {
		return "NUMBER"
	}
	return "NAME"
}

// judged gives the code and offset that 1.4 asks for.
func judged(src string, tokens []string, offsets []int) (int, int) {
	c := newChart()
	for i, token := range tokens {
		if !c.feed(token) {
			return impl.ParseSyntax, offsets[i]
		}
	}
	if !c.whole() {
		return impl.ParseSyntax, len(src)
	}
	return impl.ParseOK, 0
}

func allTokens() []string {
	return append(append([]string{"x", "7"}, keywords...), symbols...)
}

// tryAll goes through every token after every beginning of at most that many tokens more.
func tryAll(t *testing.T, c *chart, src string, depth int) {
	for _, token := range allTokens() {
		longer := src + " " + token
		if !c.feed(token) {
			wantParse(t, longer, impl.ParseSyntax, len(src)+1)
			wantParse(t, longer+" x", impl.ParseSyntax, len(src)+1)
			continue
		}
		if c.whole() {
			wantParse(t, longer, impl.ParseOK, 0)
		} else {
			wantParse(t, longer, impl.ParseSyntax, len(longer))
		}
		if depth > 1 {
			tryAll(t, c, longer, depth-1)
		}
		c.unfeed()
	}
}

func TestParseAfterEveryBeginning(t *testing.T) {
	cases := []struct {
		tokens string
		depth  int
	}{
		{"", 4},
		{"node f (", 4},
		{"node f ( x : int", 3},
		{"node f ( ) returns (", 4},
		{"node f ( ) returns ( z : int", 3},
		{"node f ( ) returns ( z : int ) var", 4},
		{"node f ( ) returns ( z : int ) var u : bool when c", 3},
		{"node f ( ) returns ( z : int ) let", 4},
		{"node f ( ) returns ( z : int ) let x ,", 4},
		{"node f ( ) returns ( z : int ) let x , z = g (", 3},
		{"node f ( ) returns ( z : int ) let z =", 3},
		{"node f ( ) returns ( z : int ) let z = g", 3},
		{"node f ( ) returns ( z : int ) let z = 1 + 2", 2},
		{"node f ( ) returns ( z : int ) let z = ( - 2", 2},
		{"node f ( ) returns ( z : int ) let z = x < 2", 3},
		{"node f ( ) returns ( z : int ) let z = merge x", 3},
		{"node f ( ) returns ( z : int ) let z = if x then 2", 2},
		{"node f ( ) returns ( z : int ) let z = true fby", 3},
		{"node f ( ) returns ( z : int ) let z = x ; tel", 3},
	}
	for _, k := range cases {
		c := newChart()
		for _, token := range strings.Fields(k.tokens) {
			if !c.feed(token) {
				t.Fatal("no beginning:", k.tokens)
			}
		}
		tryAll(t, c, k.tokens, k.depth)
	}
}

// spoiled changes a few tokens.
func (m maker) spoiled(tokens []string) []string {
	out := append([]string{}, tokens...)
	for range m.Intn(3) {
		i := m.Intn(len(out))
		token := pick(m, allTokens())
		switch m.Intn(5) {
		case 0:
			out[i] = token
		case 1:
			out = append(out[:i], append([]string{token}, out[i:]...)...)
		case 2:
			out = append(out[:i:i], out[i+1:]...)
		case 3:
			out = out[:i]
		case 4:
			j := m.Intn(len(out))
			out[i], out[j] = out[j], out[i]
		}
		if len(out) == 0 {
			return out
		}
	}
	return out
}

func TestParseOfSpoiledTexts(t *testing.T) {
	counts := map[int]int{}
	for seed := range int64(1500) {
		m := newMaker(seed)
		tokens := m.spoiled(m.tokensOf(impl.Program{Nodes: []impl.Node{m.node()}}))
		src, offsets := m.laid(tokens)
		code, at := judged(src, tokens, offsets)
		counts[code]++
		wantParse(t, src, code, at)
	}
	if counts[impl.ParseOK] < 300 || counts[impl.ParseSyntax] < 300 {
		t.Error("too few of one kind to tell anything:", counts)
	}
}
