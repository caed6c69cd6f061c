package tests

import (
	"regexp"
	"strconv"
	"strings"

	"loop.example/s0043/impl"
)

// A second reading of 3.5: each line has one form, the forms of a class come in their order, and numbers stand as they are
// printed.

const (
	namePart  = `(?:[A-Za-z][A-Za-z0-9_]*|\$[0-9]+)`
	countPart = `(?:0|[1-9][0-9]*)`
	valuePart = `(?:0|-?[1-9][0-9]*)`
	itemPart  = `(?:` + countPart + `|true|false|\.` + namePart + `|@` + countPart + `|neg|not|[-+*/=<>?]|mod|<>|<=|>=|and|or|xor)`
	codePart  = itemPart + `(?: ` + itemPart + `)*`
)

// forms gives the forms of lines, each with the rank at which it stands in a class.
var forms = []struct {
	rank int
	line *regexp.Regexp
}{
	{1, wholeLine(`class ` + namePart)},
	{2, wholeLine(`in ` + namePart + ` (?:int|bool)`)},
	{3, wholeLine(`out ` + namePart + ` (?:int|bool)`)},
	{4, wholeLine(`loc ` + namePart)},
	{5, wholeLine(`mem ` + valuePart)},
	{6, wholeLine(`use ` + namePart)},
	{7, wholeLine(`set ` + namePart + ` : ` + codePart)},
	{7, wholeLine(`save ` + countPart + ` : ` + codePart)},
	{7, wholeLine(`call ` + countPart + `(?: ` + namePart + `)+ :(?: ` + codePart + `(?: , ` + codePart + `)*)?`)},
	{7, wholeLine(`if ` + namePart)},
	{7, wholeLine(`else`)},
	{7, wholeLine(`end`)},
	{8, wholeLine(`endclass`)},
}

func wholeLine(form string) *regexp.Regexp {
	return regexp.MustCompile(`^` + form + `$`)
}

// rankOf gives the rank of a line, 0 if it has none of the forms.
func rankOf(line string) int {
	for _, f := range forms {
		if f.line.MatchString(line) {
			return f.rank
		}
	}
	return 0
}

func readText(text string) (impl.Machine, bool) {
	lines := strings.Split(text, "\n")
	if lines[len(lines)-1] != "" {
		return impl.Machine{}, false
	}
	var m impl.Machine
	rank := 8
	for _, line := range lines[:len(lines)-1] {
		next := rankOf(line)
		ordered := next >= rank && rank < 8 && next > 1 || rank == 8 && next == 1
		if !ordered || !addLine(&m, strings.Fields(line)) {
			return impl.Machine{}, false
		}
		rank = next
	}
	return m, rank == 8 && fits(m)
}

// addLine tells whether all numbers and classes of a line are such.
func addLine(m *impl.Machine, words []string) bool {
	if words[0] == "class" {
		m.Classes = append(m.Classes, impl.Class{Name: words[1]})
		return true
	}
	c := &m.Classes[len(m.Classes)-1]
	good := true
	switch words[0] {
	case "in":
		c.Ins = append(c.Ins, impl.Slot{Name: words[1], Type: map[string]int{"int": 1, "bool": 2}[words[2]]})
	case "out":
		c.Outs = append(c.Outs, impl.Slot{Name: words[1], Type: map[string]int{"int": 1, "bool": 2}[words[2]]})
	case "loc":
		c.Locs = append(c.Locs, words[1])
	case "mem":
		v, err := strconv.ParseInt(words[1], 10, 32)
		c.Mems, good = append(c.Mems, int(v)), err == nil
	case "use":
		good = false
		for k, d := range m.Classes[:len(m.Classes)-1] {
			if d.Name == words[1] {
				c.Insts, good = append(c.Insts, k), true
				break
			}
		}
	case "endclass":
	default:
		var s impl.Stm
		s, good = readStm(words)
		c.Body = append(c.Body, s)
	}
	return good
}

func readStm(words []string) (impl.Stm, bool) {
	head, tail, _ := strings.Cut(strings.Join(words, " ")+" ", " :")
	parts := strings.Fields(head)
	kind := map[string]int{"set": 1, "save": 2, "call": 3, "if": 4, "else": 5, "end": 6}[words[0]]
	s := impl.Stm{Kind: kind}
	var good, goodAt = true, true
	switch words[0] {
	case "set":
		s.Name = parts[1]
		s.Code, good = readItems(tail)
	case "save":
		s.At, goodAt = readCount(parts[1])
		s.Code, good = readItems(tail)
	case "call":
		s.At, goodAt = readCount(parts[1])
		s.Outs = parts[2:]
		if strings.TrimSpace(tail) == "" {
			break
		}
		for _, arg := range strings.Split(tail, ",") {
			items, ok := readItems(arg)
			s.Args = append(s.Args, items)
			good = good && ok
		}
	case "if":
		s.Name = parts[1]
	}
	return s, good && goodAt
}

func readCount(word string) (int, bool) {
	v, err := strconv.ParseInt(word, 10, 32)
	return int(v), err == nil
}

func readItems(text string) (itemList, bool) {
	var items itemList
	for _, word := range strings.Fields(text) {
		good := true
		var item impl.Item
		switch {
		case word == "true" || word == "false":
			item = truth(map[string]int{"true": 1}[word])
		case word[0] == '.':
			item = name(word[1:])
		case word[0] == '@':
			item.Op = impl.OpMem
			item.Val, good = readCount(word[1:])
		case '0' <= word[0] && word[0] <= '9':
			item.Op = impl.OpInt
			item.Val, good = readCount(word)
		default:
			item = op(map[string]int{"neg": 4, "not": 5, "+": 6, "-": 7, "*": 8, "/": 9, "mod": 10, "=": 11, "<>": 12, "<": 13,
				"<=": 14, ">": 15, ">=": 16, "and": 17, "or": 18, "xor": 19, "?": 20}[word])
		}
		if !good {
			return nil, false
		}
		items = append(items, item)
	}
	return items, true
}
