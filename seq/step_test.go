package seq_test

import (
	"math"
	"slices"
	"testing"

	"undertow/api"
	"undertow/ops"
	"undertow/seq"
)

// m1 and m8 are -1 and -8 as words.
const (
	m1 = math.MaxUint64
	m8 = math.MaxUint64 - 7
)

// A line is an instruction at 8 of 64 bytes, done by a hart whose x1 is a, whose x2 is b; where it goes on, if not at 12; what it makes of x3, if it has that; what it does.
type line struct {
	text                     string
	a, b, read               uint64
	failed                   bool
	next, val, addr, in, out uint64
	fails                    bool
}

// lines are some of every operation but ECALL and EBREAK.
var lines = []line{
	{text: "lui x3, 305418240", a: 1, b: 2, val: 0x1234_5000},
	{text: "lui x3, -4096", a: 1, b: 2, val: 0xffff_ffff_ffff_f000},
	{text: "auipc x3, 4096", a: 1, b: 2, val: 0x1008},
	{text: "auipc x3, -4096", val: 0xffff_ffff_ffff_f008},
	{text: "jal x3, 32", a: 1, b: 2, val: 12, next: 40},
	{text: "jal x3, -8", val: 12, next: math.MaxUint64},
	{text: "jal x3, -12", val: 12, next: math.MaxUint64 - 3},
	{text: "jal x3, 2", val: 12, next: 10},
	{text: "jal x0, 56", next: 64},
	{text: "jalr x3, x1, 4", a: 17, b: 100, val: 12, next: 20},
	{text: "jalr x3, x1, -1", a: 0, val: 12, next: m1 - 1},
	{text: "jalr x3, x1, 2047", a: m1, val: 12, next: 2046},
	{text: "beq x1, x2, 16", a: 5, b: 5, next: 24},
	{text: "beq x1, x2, 16", a: 5, b: 6},
	{text: "beq x1, x2, -4", a: 5, b: 5, next: 4},
	{text: "beq x1, x2, -4", a: 5, b: 5 + 1<<32},
	{text: "bne x1, x2, 16", a: 5, b: 6, next: 24},
	{text: "bne x1, x2, -8", a: 5, b: 6, next: math.MaxUint64},
	{text: "bne x1, x2, -8", a: 5, b: 5},
	{text: "blt x1, x2, 16", a: m1, b: 0, next: 24},
	{text: "blt x1, x2, 16", a: 0, b: m1},
	{text: "blt x1, x2, -4", a: 1, b: 2, next: 4},
	{text: "bge x1, x2, 16", a: 0, b: m1, next: 24},
	{text: "bge x1, x2, 16", a: 3, b: 3, next: 24},
	{text: "bge x1, x2, -4", a: m1, b: 0},
	{text: "bltu x1, x2, 16", a: 0, b: m1, next: 24},
	{text: "bltu x1, x2, -4", a: m1, b: 0},
	{text: "bgeu x1, x2, -4", a: m1, b: 0, next: 4},
	{text: "bgeu x1, x2, 16", a: 0, b: m1},
	{text: "lb x3, 3(x1)", a: 40, b: 9, read: 0x1234_5680, val: 0xffff_ffff_ffff_ff80, addr: 43, in: 0x80},
	{text: "lb x3, 63(x1)", read: 0x7f, val: 0x7f, addr: 63, in: 0x7f},
	{text: "lb x3, 1(x1)", a: m1, read: 0xff01, val: 1, addr: 0, in: 1},
	{text: "lh x3, -2(x1)", a: 64, read: 0x1_8001, val: 0xffff_ffff_ffff_8001, addr: 62, in: 0x8001},
	{text: "lh x3, 0(x1)", read: 0x7fff, val: 0x7fff, in: 0x7fff},
	{text: "lw x3, 8(x1)", a: m8, read: 0x5_8000_0000, val: 0xffff_ffff_8000_0000, in: 0x8000_0000},
	{text: "lw x3, 0(x1)", a: 60, read: 0x7fff_ffff, val: 0x7fff_ffff, addr: 60, in: 0x7fff_ffff},
	{text: "ld x3, 0(x1)", a: 56, read: 0x8123_4567_89ab_cdef, val: 0x8123_4567_89ab_cdef, addr: 56, in: 0x8123_4567_89ab_cdef},
	{text: "ld x3, -56(x1)", a: 56, read: m1, failed: true, val: m1, in: m1},
	{text: "lbu x3, 0(x1)", a: 63, read: 0x9ff, val: 0xff, addr: 63, in: 0xff},
	{text: "lhu x3, 0(x1)", a: 62, read: 0x9_ffff, val: 0xffff, addr: 62, in: 0xffff},
	{text: "lwu x3, 0(x1)", a: 60, read: 0x9_ffff_ffff, val: 0xffff_ffff, addr: 60, in: 0xffff_ffff},
	{text: "lw x0, 0(x1)", a: 4, read: 0x9_ffff_fff0, addr: 4, in: 0xffff_fff0},
	{text: "sb x2, 63(x0)", a: 1, b: 0x1ff, read: 7, addr: 63, out: 0xff},
	{text: "sb x2, 1(x1)", a: m1, b: 0x80, out: 0x80},
	{text: "sh x2, -2(x1)", a: 64, b: 0x1_8000, read: 7, addr: 62, out: 0x8000},
	{text: "sw x2, 0(x1)", a: 60, b: m1, read: 7, failed: true, addr: 60, out: 0xffff_ffff},
	{text: "sd x2, 0(x1)", a: 56, b: m1 - 1, read: 7, addr: 56, out: m1 - 1},
	{text: "sd x0, 0(x1)", a: 8, b: 5, read: 7, addr: 8},
	{text: "addi x3, x1, -5", a: 2, b: 9, read: 7, failed: true, val: m1 - 2},
	{text: "addi x0, x1, 5", a: 2},
	{text: "addi x3, x0, 5", a: 2, val: 5},
	{text: "slti x3, x1, -1", a: m1 - 1, val: 1},
	{text: "slti x3, x1, -1", a: 0},
	{text: "sltiu x3, x1, -1", a: 0, val: 1},
	{text: "xori x3, x1, 6", a: 3, b: 8, val: 5},
	{text: "ori x3, x1, 6", a: 3, b: 8, val: 7},
	{text: "andi x3, x1, 6", a: 3, b: 8, val: 2},
	{text: "slli x3, x1, 63", a: 3, b: 1, val: 1 << 63},
	{text: "srli x3, x1, 60", a: m8, b: 1, val: 15},
	{text: "srai x3, x1, 2", a: m8, b: 1, val: m1 - 1},
	{text: "addiw x3, x1, 1", a: 0x7fff_ffff, val: 0xffff_ffff_8000_0000},
	{text: "slliw x3, x1, 31", a: 1, val: 0xffff_ffff_8000_0000},
	{text: "srliw x3, x1, 4", a: 0x5_ffff_ffff, val: 0xfff_ffff},
	{text: "sraiw x3, x1, 4", a: 0x5_8000_0000, val: 0xffff_ffff_f800_0000},
	{text: "add x3, x1, x2", a: m1, b: 3, val: 2},
	{text: "sub x3, x1, x2", a: 3, b: 5, val: m1 - 1},
	{text: "sll x3, x1, x2", a: 3, b: 65, val: 6},
	{text: "slt x3, x1, x2", a: m1, b: 0, val: 1},
	{text: "sltu x3, x1, x2", a: 0, b: m1, val: 1},
	{text: "sltu x3, x1, x2", a: m1, b: 0},
	{text: "xor x3, x1, x2", a: 12, b: 10, val: 6},
	{text: "srl x3, x1, x2", a: m1, b: 63, val: 1},
	{text: "sra x3, x1, x2", a: m8, b: 1, val: m1 - 3},
	{text: "or x3, x1, x2", a: 12, b: 10, val: 14},
	{text: "and x3, x1, x2", a: 12, b: 10, val: 8},
	{text: "addw x3, x1, x2", a: 0xffff_ffff, b: 2, val: 1},
	{text: "subw x3, x1, x2", a: 3, b: 4, val: m1},
	{text: "sllw x3, x1, x2", a: 3, b: 33, val: 6},
	{text: "srlw x3, x1, x2", a: m1, b: 28, val: 15},
	{text: "sraw x3, x1, x2", a: 0x8000_0000, b: 30, val: m1 - 1},
	{text: "fence rw, w", a: 1, b: 2, read: 7, failed: true},
	{text: "fence 0, 0", a: 1, b: 2, read: 7},
	{text: "fence.tso", a: 1, b: 2, read: 7},
	{text: "lr.w x3, (x1)", a: 60, b: 5, read: 0x3_8000_0001, failed: true, val: 0xffff_ffff_8000_0001, addr: 60, in: 0x8000_0001},
	{text: "lr.d.aqrl x3, (x1)", a: 56, b: 5, read: 0x3_8000_0001, val: 0x3_8000_0001, addr: 56, in: 0x3_8000_0001},
	{text: "sc.w x3, x2, (x1)", a: 60, b: 0x3_8000_0001, read: 7, addr: 60, out: 0x8000_0001},
	{text: "sc.w.rl x3, x2, (x1)", a: 60, b: 0x3_8000_0001, read: 7, failed: true, val: 1, addr: 60, fails: true},
	{text: "sc.d x3, x2, (x1)", a: 0, b: m1, read: 7, out: m1},
	{text: "sc.d x3, x2, (x1)", a: 0, b: m1, read: 7, failed: true, val: 1, fails: true},
	{text: "sc.d x0, x2, (x1)", a: 8, b: m1, read: 7, failed: true, addr: 8, fails: true},
	{text: "amoswap.w x3, x2, (x1)", a: 4, b: 0x5_0000_0009, read: 0x6_8000_0000, val: 0xffff_ffff_8000_0000, addr: 4, in: 0x8000_0000, out: 9},
	{text: "amoadd.w x3, x2, (x1)", a: 4, b: 2, read: 0x6_ffff_ffff, failed: true, val: m1, addr: 4, in: 0xffff_ffff, out: 1},
	{text: "amoxor.w x3, x2, (x1)", a: 4, b: 10, read: 12, val: 12, addr: 4, in: 12, out: 6},
	{text: "amoand.w x3, x2, (x1)", a: 4, b: 10, read: 12, val: 12, addr: 4, in: 12, out: 8},
	{text: "amoor.w x3, x2, (x1)", a: 4, b: 10, read: 12, val: 12, addr: 4, in: 12, out: 14},
	{text: "amomin.w x3, x2, (x1)", a: 60, b: 10, read: 0xffff_ffff, val: m1, addr: 60, in: 0xffff_ffff, out: 0xffff_ffff},
	{text: "amomax.w x3, x2, (x1)", a: 60, b: 10, read: 0xffff_ffff, val: m1, addr: 60, in: 0xffff_ffff, out: 10},
	{text: "amominu.w x3, x2, (x1)", a: 60, b: 10, read: 0xffff_ffff, val: m1, addr: 60, in: 0xffff_ffff, out: 10},
	{text: "amomaxu.w x3, x2, (x1)", a: 60, b: 10, read: 0x7_ffff_ffff, val: m1, addr: 60, in: 0xffff_ffff, out: 0xffff_ffff},
	{text: "amoswap.d x3, x2, (x1)", a: 8, b: m8, read: m1, val: m1, addr: 8, in: m1, out: m8},
	{text: "amoadd.d.aq x3, x2, (x1)", a: 8, b: m8, read: m1, val: m1, addr: 8, in: m1, out: m8 - 1},
	{text: "amoxor.d x3, x2, (x1)", a: 8, b: 10, read: 12, val: 12, addr: 8, in: 12, out: 6},
	{text: "amoand.d x3, x2, (x1)", a: 8, b: 10, read: 12, val: 12, addr: 8, in: 12, out: 8},
	{text: "amoor.d x0, x2, (x1)", a: 8, b: 10, read: 12, addr: 8, in: 12, out: 14},
	{text: "amomin.d x3, x2, (x1)", a: 56, b: 10, read: m1, val: m1, addr: 56, in: m1, out: m1},
	{text: "amomax.d x3, x2, (x1)", a: 56, b: 10, read: m1, val: m1, addr: 56, in: m1, out: 10},
	{text: "amominu.d x3, x2, (x1)", a: 56, b: 10, read: m1, val: m1, addr: 56, in: m1, out: 10},
	{text: "amomaxu.d x3, x2, (x1)", a: 56, b: 10, read: m1, val: m1, addr: 56, in: m1, out: m1},
}

// registers are a hart's, each unlike, but for some that are told.
func registers(a, b uint64) [32]uint64 {
	var x [32]uint64
	for r := range x {
		x[r] = 1000 + uint64(r)
	}
	x[1], x[2] = a, b
	return x
}

// goal is where a line's hart goes on. (A jump to 0 is written as the greatest number, since 0 tells that there is none.)
func (l line) goal() uint64 {
	switch l.next {
	case 0:
		return 12
	case math.MaxUint64:
		return 0
	}
	return l.next
}

// P11.1: what each line does, as it is written down, by a hart whose register 0 isn't 0 when it is handed in.
func TestStepWritten(t *testing.T) {
	seen := [api.MaxOp + 1]bool{}
	for _, l := range lines {
		img := assemble(t, ".org 8\n"+l.text, 64)
		i := read(t, l.text)
		seen[i.Op] = true
		h := api.Hart{PC: 8, X: registers(l.a, l.b)}
		want := api.Hart{PC: l.goal(), X: h.X}
		want.X[0] = 0
		if i.Rd != 0 {
			want.X[3] = l.val
		}
		done := api.Done{PC: 8, Inst: i, Val: l.val, Addr: l.addr, Read: l.in, Wrote: l.out, Failed: l.fails}
		if got, d := seq.Step(h, img, l.read, l.failed); got != want || d != done {
			t.Errorf("%s: %+v %+v, not %+v %+v", l.text, got, d, want, done)
		}
	}
	for op := 1; op <= api.MaxOp; op++ {
		if seen[op] == (ops.Sort(op) == ops.Halt) {
			t.Errorf("%d: %v", op, seen[op])
		}
	}
}

// P11.1: a register that an instruction both reads and writes, and one that is both of those that it reads.
func TestStepSame(t *testing.T) {
	for _, c := range []struct {
		text          string
		x1, read      uint64
		next, val     uint64
		addr, in, out uint64
	}{
		{"jalr x1, x1, 4", 16, 7, 20, 4, 0, 0, 0},
		{"add x1, x1, x1", 16, 7, 4, 32, 0, 0, 0},
		{"sub x1, x1, x1", 16, 7, 4, 0, 0, 0, 0},
		{"beq x1, x1, 8", 16, 7, 8, 16, 0, 0, 0},
		{"ld x1, 8(x1)", 16, 7, 4, 7, 24, 7, 0},
		{"sd x1, 8(x1)", 16, 7, 4, 16, 24, 0, 16},
		{"lr.d x1, (x1)", 16, 7, 4, 7, 16, 7, 0},
		{"sc.d x1, x1, (x1)", 16, 7, 4, 0, 16, 0, 16},
		{"amoadd.d x1, x1, (x1)", 16, 7, 4, 7, 16, 7, 23},
		{"auipc x1, 0", 16, 7, 4, 0, 0, 0, 0},
	} {
		h := api.Hart{X: registers(c.x1, 0)}
		want := api.Hart{PC: c.next, X: registers(c.val, 0)}
		want.X[0] = 0
		got, d := seq.Step(h, assemble(t, c.text, 32), c.read, false)
		if got != want || d.Addr != c.addr || d.Read != c.in || d.Wrote != c.out || d.Inst.Rd == 1 && d.Val != c.val {
			t.Errorf("%s: %+v %+v", c.text, got, d)
		}
	}
}

// P11.3: an instruction of every operation that writes a register writes no register 0, and tells 0 of it.
func TestStepNought(t *testing.T) {
	for _, l := range lines {
		i := read(t, l.text)
		if i.Rd == 0 {
			continue
		}
		img := assemble(t, ".org 8\n"+l.text, 64)
		img[8], img[9] = img[8]&0x7f, img[9]&0xf0
		h := api.Hart{PC: 8, X: registers(l.a, l.b)}
		want := api.Hart{PC: l.goal(), X: h.X}
		want.X[0] = 0
		i.Rd = 0
		done := api.Done{PC: 8, Inst: i, Addr: l.addr, Read: l.in, Wrote: l.out, Failed: l.fails}
		if got, d := seq.Step(h, img, l.read, l.failed); got != want || d != done {
			t.Errorf("%s of x0: %+v %+v, not %+v %+v", l.text, got, d, want, done)
		}
	}
}

// P11.1: register 0 is read as 0, also as an address, by a hart that was handed in with another one.
func TestStepReadsNought(t *testing.T) {
	for _, c := range []struct {
		text       string
		next, val  uint64
		addr, out  uint64
		whenFailed bool
	}{
		{text: "addi x3, x0, 5", next: 4, val: 5},
		{text: "add x3, x0, x0", next: 4},
		{text: "jalr x3, x0, 16", next: 16, val: 4},
		{text: "bne x0, x5, 8", next: 8},
		{text: "beq x0, x0, 8", next: 8},
		{text: "bltu x0, x5, 8", next: 8},
		{text: "lw x3, 8(x0)", next: 4, val: 77, addr: 8},
		{text: "sw x0, 8(x0)", next: 4, addr: 8},
		{text: "sw x5, 0(x0)", next: 4, out: 1005},
		{text: "lr.w x3, (x0)", next: 4, val: 77},
		{text: "sc.w x3, x0, (x0)", next: 4},
		{text: "amoswap.w x3, x0, (x0)", next: 4, val: 77},
	} {
		h := api.Hart{X: registers(1, 2)}
		want := h
		want.PC, want.X[0] = c.next, 0
		if i := read(t, c.text); i.Rd == 3 {
			want.X[3] = c.val
		}
		got, d := seq.Step(h, assemble(t, c.text, 16), 77, false)
		if got != want || d.Addr != c.addr || d.Wrote != c.out {
			t.Errorf("%s: %+v %+v", c.text, got, d)
		}
	}
}

// P11.1: a step that halts a hart turns its cause alone, whatever is read, and tells where, which and why; of a place that may not be, where that is.
func TestStepCauses(t *testing.T) {
	call, halt := api.Inst{Op: api.ECALL}, api.Inst{Op: api.EBREAK}
	for _, c := range []struct {
		text  string
		pc, a uint64
		cause int
		addr  uint64
		inst  api.Inst
	}{
		{text: "ecall", cause: api.CauseCall, inst: call},
		{text: "ebreak", cause: api.CauseBreak, inst: halt},
		{text: "nop\n.org 12\necall", pc: 12, cause: api.CauseCall, inst: call},
		{text: ".word 0", cause: api.CauseIllegal},
		{text: ".word 4294967295", cause: api.CauseIllegal},
		{text: "nop", pc: 16, cause: api.CauseFetch}, {text: "nop", pc: 2, cause: api.CauseFetch}, {text: "nop", pc: 1, cause: api.CauseFetch}, {text: "nop", pc: m1, cause: api.CauseFetch}, {text: "nop", pc: m1 - 3, cause: api.CauseFetch},
		{text: "lh x3, 1(x1)", a: 4, cause: api.CauseAlign, addr: 5}, {text: "lhu x3, 0(x1)", a: 3, cause: api.CauseAlign, addr: 3}, {text: "lw x3, 2(x1)", cause: api.CauseAlign, addr: 2}, {text: "lwu x3, 0(x1)", a: 7, cause: api.CauseAlign, addr: 7}, {text: "ld x3, 4(x1)", cause: api.CauseAlign, addr: 4},
		{text: "sh x2, 0(x1)", a: 15, cause: api.CauseAlign, addr: 15}, {text: "sw x2, 0(x1)", a: 14, cause: api.CauseAlign, addr: 14}, {text: "sd x2, 0(x1)", a: 12, cause: api.CauseAlign, addr: 12},
		{text: "lw x3, 0(x1)", a: m1, cause: api.CauseAlign, addr: m1}, {text: "ld x3, 0(x1)", a: 20, cause: api.CauseAlign, addr: 20}, {text: "sd x2, -4(x1)", cause: api.CauseAlign, addr: m1 - 3},
		{text: "lb x3, 0(x1)", a: 16, cause: api.CauseRange, addr: 16}, {text: "lbu x3, -1(x1)", cause: api.CauseRange, addr: m1}, {text: "lh x3, 0(x1)", a: 16, cause: api.CauseRange, addr: 16}, {text: "lhu x3, 0(x1)", a: m1 - 1, cause: api.CauseRange, addr: m1 - 1},
		{text: "lw x3, 0(x1)", a: 16, cause: api.CauseRange, addr: 16}, {text: "lwu x3, 0(x1)", a: 1 << 32, cause: api.CauseRange, addr: 1 << 32}, {text: "ld x3, 0(x1)", a: 1 << 63, cause: api.CauseRange, addr: 1 << 63}, {text: "ld x3, 0(x1)", a: m8, cause: api.CauseRange, addr: m8},
		{text: "sb x2, 2047(x1)", cause: api.CauseRange, addr: 2047}, {text: "sh x2, 0(x1)", a: 16, cause: api.CauseRange, addr: 16}, {text: "sw x2, -4(x1)", cause: api.CauseRange, addr: m1 - 3}, {text: "sd x2, 0(x1)", a: 16, cause: api.CauseRange, addr: 16},
		{text: "lr.w x3, (x1)", a: 6, cause: api.CauseAlign, addr: 6}, {text: "lr.d x3, (x1)", a: 4, cause: api.CauseAlign, addr: 4}, {text: "lr.w x3, (x1)", a: 16, cause: api.CauseRange, addr: 16}, {text: "lr.d x3, (x1)", a: 16, cause: api.CauseRange, addr: 16},
		{text: "sc.w x3, x2, (x1)", a: 6, cause: api.CauseAlign, addr: 6}, {text: "sc.d x3, x2, (x1)", a: 4, cause: api.CauseAlign, addr: 4}, {text: "sc.w x3, x2, (x1)", a: 16, cause: api.CauseRange, addr: 16}, {text: "sc.d x3, x2, (x1)", a: 16, cause: api.CauseRange, addr: 16},
		{text: "amoswap.w x3, x2, (x1)", a: 6, cause: api.CauseAlign, addr: 6}, {text: "amomaxu.d x3, x2, (x1)", a: 4, cause: api.CauseAlign, addr: 4}, {text: "amoadd.w x3, x2, (x1)", a: 16, cause: api.CauseRange, addr: 16}, {text: "amominu.d x3, x2, (x1)", a: m8, cause: api.CauseRange, addr: m8},
	} {
		want := api.Done{PC: c.pc, Inst: c.inst, Cause: c.cause, Addr: c.addr}
		if c.cause == api.CauseAlign || c.cause == api.CauseRange {
			want.Inst = read(t, c.text)
		}
		h := api.Hart{PC: c.pc, X: registers(c.a, 5)}
		end := h
		end.X[0], end.Cause = 0, c.cause
		for _, failed := range []bool{false, true} {
			if got, d := seq.Step(h, assemble(t, c.text, 16), 77, failed); got != end || d != want {
				t.Errorf("%s: %+v %+v, not %+v %+v", c.text, got, d, end, want)
			}
		}
	}
}

// P11.1: an operation's last place is behind no size's end: each size at each place of memories of few bytes.
func TestStepPlaces(t *testing.T) {
	for size := 4; size <= 40; size++ {
		for _, text := range []string{"lb", "lh", "lw", "ld", "lbu", "lhu", "lwu", "sb", "sh", "sw", "sd"} {
			img := assemble(t, text+" x2, -16(x1)", size)
			n := ops.Size(ops.ByName(text))
			for at := -20; at <= size+20; at++ {
				cause := api.Running
				switch {
				case at%n != 0:
					cause = api.CauseAlign
				case at < 0 || at+n > size:
					cause = api.CauseRange
				}
				h, d := seq.Step(api.Hart{X: registers(uint64(at+16), 5)}, img, 77, false)
				if h.Cause != cause || d.Cause != cause || d.Addr != uint64(at) || (h.PC == 0) != (cause != 0) {
					t.Errorf("%s at %d of %d: %+v %+v", text, at, size, h, d)
				}
			}
		}
	}
}

// P11.1, P11.3: a hart that has halted stays as it is, whyever it has; nothing is done.
func TestStepHalted(t *testing.T) {
	img := assemble(t, "addi x3, x0, 5\nhalt", 8)
	for _, cause := range []int{1, 2, 3, 4, 5, 6, 7, 99, -1, math.MaxInt, math.MinInt} {
		for _, pc := range []uint64{0, 4, 8, 2, m1} {
			h := api.Hart{PC: pc, X: registers(1, 2), Cause: cause}
			want := h
			want.X[0] = 0
			if got, d := seq.Step(h, img, 7, true); got != want || d != (api.Done{}) {
				t.Errorf("%d at %x: %+v %+v", cause, pc, got, d)
			}
			got, mem, l := seq.Alone(h, img, 100)
			if got != want || len(l) != 0 || !slices.Equal(mem, img) {
				t.Errorf("%d at %x: %+v %v %v", cause, pc, got, mem, l)
			}
		}
	}
}

// P11.3: a hart that a step has halted does nothing more.
func TestStepHalts(t *testing.T) {
	for _, text := range []string{"ecall", "ebreak", ".word 0", "lw x1, 1(x0)", "lw x1, 2000(x0)", ".org 4"} {
		img := assemble(t, text, 4)
		h, d := seq.Step(api.Hart{X: registers(1, 2)}, img, 7, false)
		if d.Cause == api.Running || h.Cause != d.Cause || h.PC != 0 {
			t.Errorf("%s: %+v %+v", text, h, d)
		}
		if got, d := seq.Step(h, img, 7, false); got != h || d != (api.Done{}) {
			t.Errorf("%s again: %+v %+v", text, got, d)
		}
	}
}

// P11.1, P11.3: steps of harts of any registers, with any numbers read, are the model's.
func TestStepMany(t *testing.T) {
	d := draw(112)
	seen := map[int]int{}
	for range 60_000 {
		size := 4 + d.of(60)
		img, h := d.image(size), d.hart(size)
		h.PC = uint64(d.of(size/4+1) * 4)
		switch d.of(40) {
		case 0:
			h.Cause = d.of(9) - 1
		case 1:
			h.PC = d.word()
		}
		read, failed := d.word(), d.of(2) == 0
		want, done := modelStep(h, img, read, failed)
		got, do := seq.Step(h, img, read, failed)
		if got != want || do != done {
			t.Fatalf("%+v of %v, %x %v: %+v %+v, not %+v %+v", h, img, read, failed, got, do, want, done)
		}
		if got.X[0] != 0 {
			t.Fatalf("%+v", got)
		}
		seen[do.Cause]++
	}
	for cause := api.Running; cause <= api.CauseRange; cause++ {
		if seen[cause] < 10 {
			t.Errorf("cause %d: %d times", cause, seen[cause])
		}
	}
}
