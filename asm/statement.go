package asm

import (
	"strings"

	"undertow/api"
	"undertow/encode"
	"undertow/ops"
	"undertow/show"
	"undertow/word"
)

// First words of lines.
const (
	orgWord   = ".org"
	byteWord  = ".byte"
	halfWord  = ".half"
	wordWord  = ".word"
	dwordWord = ".dword"
	zeroWord  = ".zero"
	nopWord   = "nop"
	haltWord  = "halt"
	liWord    = "li"
	jWord     = "j"
)

// colon stands behind a label that names a place, comma between two parts of an instruction's text; noGoal is an immediate that every Branch and JAL has.
const (
	colon  = ":"
	comma  = ", "
	noGoal = "0"
)

// A statement is what a line says, wherever it stands: of what it doesn't speak, that is zero.
type statement struct {
	label string   // the label that names the place
	org   bool     // whether the place is to be to
	to    int64    // where .org goes
	count int64    // how many bytes are put
	value uint64   // the number whose bytes they are
	inst  api.Inst // or the instruction whose word's they are
	goal  string   // the label in place of the instruction's immediate
}

// read is what a line says; false, if it is none that may be.
func read(line string) (statement, bool) {
	if name, ok := strings.CutSuffix(line, colon); ok {
		return statement{label: name}, IsName(name)
	}
	first, rest, _ := strings.Cut(line, blank)
	switch first {
	case "":
		return statement{}, true
	case orgWord, byteWord, halfWord, wordWord, dwordWord, zeroWord:
		n, ok := show.Number(rest)
		s := ofNumber(first, n)
		return s, ok && s.count >= 0
	case nopWord:
		return ofInst(api.Inst{Op: api.ADDI}), line == nopWord
	case haltWord:
		return ofInst(api.Inst{Op: api.EBREAK}), line == haltWord
	case liWord:
		return readLi(rest)
	case jWord:
		return ofJump(api.Inst{Op: api.JAL}, rest), IsName(rest)
	}
	return readInst(line)
}

// ofNumber is what one of the words that a number stands behind says with it.
func ofNumber(first string, n int64) statement {
	switch first {
	case orgWord:
		return statement{org: true, to: n}
	case zeroWord:
		return statement{count: n}
	case byteWord:
		return statement{count: 1, value: uint64(n)}
	case halfWord:
		return statement{count: 2, value: uint64(n)}
	case wordWord:
		return statement{count: 4, value: uint64(n)}
	}
	return statement{count: 8, value: uint64(n)}
}

// ofInst puts an instruction.
func ofInst(i api.Inst) statement { return statement{count: wordBytes, inst: i} }

// ofJump puts an instruction that goes to a label.
func ofJump(i api.Inst, goal string) statement {
	return statement{count: wordBytes, inst: i, goal: goal}
}

// readLi is what li says with the parts behind it.
func readLi(parts string) (statement, bool) {
	register, number, _ := strings.Cut(parts, comma)
	r, isRegister := show.Register(register)
	n, isNumber := show.Number(number)
	i := api.Inst{Op: api.ADDI, Rd: r, Imm: n}
	return ofInst(i), isRegister && isNumber && encode.Right(i)
}

// readInst is what an instruction's text says, or one with a label in it.
func readInst(line string) (statement, bool) {
	if i, e := show.Read(line); e == api.OK { // ahead of labels: a fence's set may look like one
		return ofInst(i), true
	}
	at := strings.LastIndex(line, comma) + len(comma)
	if at < len(comma) || !IsName(line[at:]) {
		return statement{}, false
	}
	i, e := show.Read(line[:at] + noGoal)
	return ofJump(i, line[at:]), e == api.OK && (ops.Sort(i.Op) == ops.Branch || i.Op == api.JAL)
}

// behind is the place that a statement at one comes to.
func (s statement) behind(place int) int {
	if s.org {
		return int(s.to)
	}
	return place + int(s.count)
}

// fits says what is wrong with a statement at a place of an image of some size, whatever the labels are.
func (s statement) fits(place, size int) api.Errno {
	switch {
	case s.inst.Op != 0 && !word.Aligned(place, wordBytes):
		return api.ErrAlign
	case s.org && (s.to < 0 || s.to > int64(size)):
		return api.ErrRange
	case s.count > int64(size-place): // place + count may be too great for a number
		return api.ErrRange
	}
	return api.OK
}

// bytes are those that a statement puts at a place.
func (s statement) bytes(place int, places map[string]int) ([]byte, api.Errno) {
	if s.inst.Op == 0 {
		b := make([]byte, s.count)
		copy(b, word.Bytes(s.value, len(b)))
		return b, api.OK
	}
	if s.goal != "" {
		at, ok := places[s.goal]
		if !ok {
			return nil, api.ErrLabel
		}
		s.inst.Imm = int64(at - place)
	}
	w, e := encode.Encode(s.inst)
	if e != api.OK { // all else of it was right when it was read
		return nil, api.ErrRange
	}
	return word.Bytes(uint64(w), wordBytes), api.OK
}
