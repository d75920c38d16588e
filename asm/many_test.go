package asm_test

import (
	"strconv"
	"strings"
	"testing"

	"undertow/api"
)

// name is one of a few, so that they often come twice, or where none is.
func (d *draw) name() string {
	return d.among("a", "b", "c", "d1", "e_", "x1", "loop", "abcdefghijklmnop")
}

// number is a number's text, mostly of a small one.
func (d *draw) number(most int) string {
	switch d.of(12) {
	case 0:
		return strconv.FormatInt(numbers()[d.of(len(numbers()))], 10)
	case 1:
		return strconv.Itoa(-d.of(most + 1))
	}
	return strconv.Itoa(d.of(most + 1))
}

// place is a number's text that is often a place of an instruction.
func (d *draw) place(most int) string {
	if d.of(3) > 0 {
		return strconv.Itoa(d.of(most/4+1) * 4)
	}
	return d.number(most)
}

// line is one of those that a source of an image of some size may have.
func (d *draw) line(size int, all []written) string {
	switch d.of(14) {
	case 0, 1:
		return d.name() + strconv.Itoa(d.of(30)) + ":"
	case 2:
		return d.name() + ":"
	case 3:
		return ".org " + d.place(size)
	case 4:
		return d.among(".byte ", ".half ", ".word ", ".word ", ".dword ") + d.number(300)
	case 5:
		return ".zero " + d.place(12)
	case 6:
		return d.among("nop", "halt", "", "")
	case 7:
		return "li x" + strconv.Itoa(d.of(33)) + ", " + d.number(2100)
	case 8:
		return "j " + d.name()
	case 9, 10:
		return d.among("beq", "bne", "blt", "bge", "bltu", "bgeu") + " x" + strconv.Itoa(d.of(32)) + ", x" + strconv.Itoa(d.of(32)) + ", " + d.name()
	case 11:
		return "jal x" + strconv.Itoa(d.of(32)) + ", " + d.name()
	}
	return all[d.of(len(all))].s
}

// around puts something around a line, and seldom into it.
func (d *draw) around(line string) string {
	switch d.of(40) {
	case 0:
		at := d.of(len(line) + 1)
		return line[:at] + d.among(" ", "  ", "#", ",", ":", "-", "x", "0", "\t", "A", ".") + line[at:]
	case 1, 2:
		return line + d.among(" ", "   ", "#", " # x", "# a:")
	case 3, 4:
		return d.among(" ", "   ") + line
	}
	return line
}

// P10.1: many sources against the model, with and without errors of each kind.
func TestManySources(t *testing.T) {
	all := allWritten()
	d := draw(1)
	came := map[api.Errno]int{}
	for range 12000 {
		size := d.of(80)
		var source []string
		if d.of(2) == 0 { // so that jumps have somewhere to go
			source = append(source, "a:", "b:", ".org 8", "c:", "d1:", "e_:", ".org 0", "x1:", "loop:", "abcdefghijklmnop:")
			size += 8
		}
		for range d.of(12) {
			source = append(source, d.around(d.line(size, all)))
		}
		s := strings.Join(source, "\n")
		check(t, s, size)
		came[assemble(s, size).e]++
	}
	for _, e := range []api.Errno{api.OK, api.ErrForm, api.ErrRange, api.ErrAlign, api.ErrLabel} {
		if came[e] < 100 {
			t.Errorf("error %d came %d times", e, came[e])
		}
	}
}

// P10.1: what is in a source never makes a call panic or go on without end; its answer is as the model's.
func TestAnyBytes(t *testing.T) {
	const letters = "\n\n  ##:.,()-_abjlinopx0129Z\t\x00\xff"
	d := draw(2)
	for range 20000 {
		b := make([]byte, d.of(30))
		for k := range b {
			b[k] = letters[d.of(len(letters))]
		}
		check(t, string(b), d.of(20))
	}
}
