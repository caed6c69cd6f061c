package tests

import (
	"regexp"
	"strconv"
	"strings"

	"loop.example/s0043/impl"
)

// A second reading of chapter 5, on those of the chapters before it: rows are found by a pattern, and the text of a machine
// is cut off as text.

func compiledAgain(src, name string) (string, int, int) {
	p, code, at := impl.Parse(src)
	switch code {
	case impl.ParseLong, impl.ParseMany:
		return "", impl.CompileParse, 0
	case impl.ParseLex, impl.ParseSyntax:
		return "", impl.CompileParse, at
	}
	if code, _, _ := firstFault(p); code != impl.CheckOK {
		return "", impl.CompileCheck, code
	}
	text := "\n" + impl.PrintMachine(newMaker(1).fusedAgain(translatedAgain(p)))
	before, after, found := strings.Cut(text, "\nclass "+name+"\n")
	if !found || strings.Contains(name, "\n") {
		return "", impl.CompileName, 0
	}
	body, _, _ := strings.Cut(after, "\nendclass\n")
	return (before + "\nclass " + name + "\n" + body + "\nendclass\n")[1:], impl.CompileOK, 0
}

// rowPattern is the form of a row, its fields in groups.
func rowPattern(types []int) *regexp.Regexp {
	if len(types) == 0 {
		return wholeLine(`\.`)
	}
	var fields []string
	for _, kind := range types {
		fields = append(fields, []string{`(-?[0-9]{1,10})`, `(t|f)`}[kind-1])
	}
	return wholeLine(strings.Join(fields, " "))
}

// scriptAgain gives the rows of a script and -1, or the line at which it is bad.
func scriptAgain(script string, types []int) ([][]int, int) {
	form := rowPattern(types)
	rows, bad := [][]int{}, -1
	for i, line := range strings.Split(script, "\n") {
		row, good := rowAgain(form.FindStringSubmatch(line))
		if good {
			rows = append(rows, row)
		} else if line != "" && bad < 0 {
			bad = i + 1
		}
	}
	if len(script) > 100000 || len(rows) > 1000 {
		bad = 0
	}
	return rows, bad
}

func rowAgain(groups []string) ([]int, bool) {
	row := []int{}
	for i, field := range groups {
		if i == 0 {
			continue
		}
		value, err := strconv.ParseInt(field, 10, 32)
		switch {
		case field == "t":
			value = 1
		case field == "f":
			value = 0
		case err != nil:
			return nil, false
		}
		row = append(row, int(value))
	}
	return row, groups != nil
}

func writtenAgain(rows [][]int, types []int) string {
	text := ""
	for _, row := range rows {
		for i, v := range row {
			switch {
			case types[i] == impl.TypeInt:
				text += " " + strconv.Itoa(v)
			case v == 0:
				text += " f"
			default:
				text += " t"
			}
		}
		text += "\n"
	}
	return strings.ReplaceAll("\n"+text, "\n ", "\n")[1:]
}

func playedAgain(text, script string) string {
	m, good := readText(text)
	if !good {
		return "machine\n"
	}
	last := len(m.Classes) - 1
	rows, bad := scriptAgain(script, slotTypes(m.Classes[last].Ins))
	if bad >= 0 {
		return "script " + strconv.Itoa(bad) + "\n"
	}
	state := firstState(m, last)
	var outs [][]int
	for _, row := range rows {
		after, values, _ := stepFlat(m, last, state, row)
		state, outs = after, append(outs, values)
	}
	return writtenAgain(outs, slotTypes(m.Classes[last].Outs))
}

func slotTypes(slots []impl.Slot) []int {
	var types []int
	for _, s := range slots {
		types = append(types, s.Type)
	}
	return types
}

func varTypes(vars []impl.Var) []int {
	var types []int
	for _, v := range vars {
		types = append(types, v.Type)
	}
	return types
}

func evaluatedAgain(src, name, script string) string {
	if _, code, at := compiledAgain(src, name); code != impl.CompileOK {
		return "compile " + strconv.Itoa(code) + " " + strconv.Itoa(at) + "\n"
	}
	p, _, _ := impl.Parse(src)
	n := nodeNamed(p, name)
	rows, bad := scriptAgain(script, varTypes(n.Ins))
	if bad >= 0 {
		return "script " + strconv.Itoa(bad) + "\n"
	}
	return writtenAgain(readStreams(p, n, rows), varTypes(n.Outs))
}
