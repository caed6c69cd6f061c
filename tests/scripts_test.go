package tests

import (
	"strconv"
	"strings"
	"testing"

	"loop.example/s0043/impl"
)

// Makers of sources and scripts.

// withoutFreshNames gives a program that a text can have.
func withoutFreshNames(t *testing.T, p impl.Program) impl.Program {
	t.Helper()
	return parsed(t, strings.ReplaceAll(impl.Print(p), "$", "S"))
}

// sourceOf gives a text of a program, as it is printed or as a person might have written it.
func (m maker) sourceOf(p impl.Program) string {
	if m.Intn(2) == 0 {
		return impl.Print(p)
	}
	src, _ := m.laid(m.tokensOf(p))
	return src
}

// field gives a field of a type in one of the forms that are right.
func (m maker) field(kind int) string {
	if kind == impl.TypeBool {
		return pick(m, []string{"t", "f"})
	}
	return pick(m, []string{
		"0", "1", "2", "7", "-1", "-3", "-0", "00", "0000000007", "-0000000009", "2147483647", "-2147483648", "-2147483647",
		strconv.Itoa(m.Intn(1<<32) - 1<<31),
	})
}

func (m maker) badField() string {
	return pick(m, []string{
		"", "-", "+1", "--1", "1-", "2147483648", "-2147483649", "9999999999", "-9999999999", "00000000001", "-00000000001",
		"x", ".", "T", "F", "tt", "true", "1.", "0x1", "1_0", "1\r", "\t1", "t\x00", "\xff", "١",
	})
}

func (m maker) line(types []int) string {
	if len(types) == 0 {
		return "."
	}
	var fields []string
	for _, kind := range types {
		fields = append(fields, m.field(kind))
	}
	return strings.Join(fields, " ")
}

func (m maker) badLine(types []int) string {
	fields := strings.Split(m.line(types), " ")
	switch m.Intn(6) {
	case 0:
		return strings.Join(append(fields, pick(m, []string{"1", "t", ""})), " ")
	case 1:
		return " " + strings.Join(fields, " ")
	case 2:
		return strings.Join(fields[1:], " ")
	case 3:
		return strings.Join(fields, "  ") + pick(m, []string{"", "\r", "\t"})
	}
	fields[m.Intn(len(fields))] = m.badField()
	return strings.Join(fields, " ")
}

// script gives so many rows with empty lines around, and a bad line in one of some scripts.
func (m maker) script(types []int, count, badOneOf int) string {
	var lines []string
	for range count {
		for m.Intn(8) == 0 {
			lines = append(lines, "")
		}
		lines = append(lines, m.line(types))
	}
	if m.Intn(badOneOf) == 0 {
		at := m.Intn(len(lines) + 1)
		lines = append(lines[:at:at], append([]string{m.badLine(types)}, lines[at:]...)...)
	}
	return strings.Join(lines, "\n") + pick(m, []string{"", "\n", "\n", "\n\n"})
}

// junk gives a string of some of the bytes that mean something in scripts, and of any others.
func (m maker) junk(pieces []string, most int) string {
	return strings.Join(several(m, 0, most, func() string {
		if m.Intn(30) == 0 {
			return string([]byte{byte(m.Intn(256))})
		}
		return pick(m, pieces)
	}), "")
}
