package show_test

import (
	"math"
	"testing"

	"undertow/api"
	"undertow/show"
)

// P9.1 and P9.2: as it is written down, of every operation.
func TestWrittenDown(t *testing.T) {
	for _, c := range allWritten() {
		if s, e := show.Text(c.i); s != c.s || e != api.OK {
			t.Errorf("%+v: %q %v, not %q", c.i, s, e, c.s)
		}
		if i, e := show.Read(c.s); i != c.i || e != api.OK {
			t.Errorf("%q: %+v %v, not %+v", c.s, i, e, c.i)
		}
	}
}

// P9.1 and P9.2: the examples, and others whose parts are at their edges.
func TestEdgesWrittenDown(t *testing.T) {
	for _, c := range []written{
		{"addi x1, x0, 10", api.Inst{Op: api.ADDI, Rd: 1, Imm: 10}},
		{"lw x5, -8(x2)", api.Inst{Op: api.LW, Rd: 5, Rs1: 2, Imm: -8}},
		{"amoadd.w.aqrl x1, x2, (x3)", api.Inst{Op: api.AMOADDW, Rd: 1, Rs1: 3, Rs2: 2, Aq: true, Rl: true}},
		{"fence rw, w", api.Inst{Op: api.FENCE, Pred: 3, Succ: 1}},
		{"fence 0, 0", api.Inst{Op: api.FENCE}},
		{"fence rw, rw", api.Inst{Op: api.FENCE, Pred: 3, Succ: 3}},
		{"fence.tso", api.Inst{Op: api.TSO, Pred: 3, Succ: 3}},
		{"addi x0, x0, 0", api.Inst{Op: api.ADDI}},
		{"addi x9, x10, -2048", api.Inst{Op: api.ADDI, Rd: 9, Rs1: 10, Imm: -2048}},
		{"addi x31, x31, 2047", api.Inst{Op: api.ADDI, Rd: 31, Rs1: 31, Imm: 2047}},
		{"add x10, x9, x31", api.Inst{Op: api.ADD, Rd: 10, Rs1: 9, Rs2: 31}},
		{"add x5, x5, x5", api.Inst{Op: api.ADD, Rd: 5, Rs1: 5, Rs2: 5}},
		{"beq x0, x31, -4096", api.Inst{Op: api.BEQ, Rs2: 31, Imm: -4096}},
		{"bgeu x10, x0, 4094", api.Inst{Op: api.BGEU, Rs1: 10, Imm: 4094}},
		{"jal x0, -1048576", api.Inst{Op: api.JAL, Imm: -1048576}},
		{"jal x31, 1048574", api.Inst{Op: api.JAL, Rd: 31, Imm: 1048574}},
		{"jalr x0, x1, 0", api.Inst{Op: api.JALR, Rs1: 1}},
		{"lui x31, 2147479552", api.Inst{Op: api.LUI, Rd: 31, Imm: 2147479552}},
		{"auipc x0, -2147483648", api.Inst{Op: api.AUIPC, Imm: -2147483648}},
		{"lbu x0, 0(x0)", api.Inst{Op: api.LBU}},
		{"ld x31, 2047(x9)", api.Inst{Op: api.LD, Rd: 31, Rs1: 9, Imm: 2047}},
		{"sb x0, 0(x0)", api.Inst{Op: api.SB}},
		{"sd x5, -2048(x31)", api.Inst{Op: api.SD, Rs1: 31, Rs2: 5, Imm: -2048}},
		{"slli x1, x2, 63", api.Inst{Op: api.SLLI, Rd: 1, Rs1: 2, Imm: 63}},
		{"sraiw x1, x2, 31", api.Inst{Op: api.SRAIW, Rd: 1, Rs1: 2, Imm: 31}},
		{"lr.w x10, (x9)", api.Inst{Op: api.LRW, Rd: 10, Rs1: 9}},
		{"lr.d.aq x1, (x0)", api.Inst{Op: api.LRD, Rd: 1, Aq: true}},
		{"sc.w.rl x0, x2, (x3)", api.Inst{Op: api.SCW, Rs1: 3, Rs2: 2, Rl: true}},
		{"amomaxu.d x31, x10, (x9)", api.Inst{Op: api.MAXUD, Rd: 31, Rs1: 9, Rs2: 10}},
		{"ecall", api.Inst{Op: api.ECALL}},
		{"ebreak", api.Inst{Op: api.EBREAK}},
	} {
		if s, e := show.Text(c.i); s != c.s || e != api.OK {
			t.Errorf("%+v: %q %v, not %q", c.i, s, e, c.s)
		}
		if i, e := show.Read(c.s); i != c.i || e != api.OK {
			t.Errorf("%q: %+v %v, not %+v", c.s, i, e, c.i)
		}
	}
}

// P9.1: what is written down as not right.
func TestTextWrong(t *testing.T) {
	for _, i := range []api.Inst{
		{}, {Op: -1}, {Op: 76}, {Op: math.MinInt}, {Op: math.MaxInt}, {Rd: 1}, {Op: 1 << 32}, {Op: 1<<32 + api.ADDI},
		{Op: api.ADDI, Rd: -1}, {Op: api.ADDI, Rd: 32}, {Op: api.ADDI, Rs1: -1}, {Op: api.ADDI, Rs1: 32}, {Op: api.ADD, Rs2: -1}, {Op: api.ADD, Rs2: 32},
		{Op: api.ADD, Rd: 1 << 32}, {Op: api.ADD, Rs1: math.MaxInt}, {Op: api.ADD, Rs2: math.MinInt},
		{Op: api.LUI, Rs1: 1}, {Op: api.JAL, Rs2: 31}, {Op: api.JALR, Rs2: 1}, {Op: api.BEQ, Rd: 1}, {Op: api.LW, Rs2: 1}, {Op: api.SW, Rd: 1}, {Op: api.ADDI, Rs2: 1}, {Op: api.LRW, Rs2: 1},
		{Op: api.FENCE, Rd: 1}, {Op: api.TSO, Rs1: 1, Pred: 3, Succ: 3}, {Op: api.ECALL, Rd: 1}, {Op: api.EBREAK, Rs2: 1},
		{Op: api.ADDI, Imm: 2048}, {Op: api.ADDI, Imm: -2049}, {Op: api.JALR, Imm: 2048}, {Op: api.LD, Imm: -2049}, {Op: api.SB, Imm: 2048},
		{Op: api.BEQ, Imm: 4096}, {Op: api.BEQ, Imm: -4098}, {Op: api.BLT, Imm: 1}, {Op: api.BNE, Imm: -1}, {Op: api.JAL, Imm: 1 << 20}, {Op: api.JAL, Imm: -1<<20 - 2}, {Op: api.JAL, Imm: 3},
		{Op: api.LUI, Imm: 1}, {Op: api.LUI, Imm: 1 << 31}, {Op: api.AUIPC, Imm: -1<<31 - 4096}, {Op: api.AUIPC, Imm: 4095},
		{Op: api.SLLI, Imm: 64}, {Op: api.SRLI, Imm: -1}, {Op: api.SRAIW, Imm: 32}, {Op: api.SLLIW, Imm: -1},
		{Op: api.ADD, Imm: 1}, {Op: api.FENCE, Imm: 1}, {Op: api.ECALL, Imm: -1}, {Op: api.LRW, Imm: 8}, {Op: api.MAXUD, Imm: math.MinInt64},
		{Op: api.LW, Aq: true}, {Op: api.SD, Rl: true}, {Op: api.ADD, Aq: true, Rl: true}, {Op: api.FENCE, Aq: true}, {Op: api.TSO, Rl: true, Pred: 3, Succ: 3}, {Op: api.EBREAK, Rl: true},
		{Op: api.FENCE, Pred: 16}, {Op: api.FENCE, Pred: -1}, {Op: api.FENCE, Succ: 16}, {Op: api.FENCE, Succ: -1}, {Op: api.FENCE, Succ: math.MinInt},
		{Op: api.TSO}, {Op: api.TSO, Pred: 3}, {Op: api.TSO, Succ: 3}, {Op: api.TSO, Pred: 15, Succ: 15}, {Op: api.ADD, Pred: 1}, {Op: api.LW, Pred: 3, Succ: 3}, {Op: api.EBREAK, Succ: 15},
	} {
		if s, e := show.Text(i); s != "" || e != api.ErrArg {
			t.Errorf("%+v: %q %v", i, s, e)
		}
	}
}

// P9.1: numbers of no operation, with nothing else and with what others have.
func TestNoOperation(t *testing.T) {
	for _, op := range notOps() {
		checkText(t, api.Inst{Op: op})
		checkText(t, api.Inst{Op: op, Rd: 1, Rs1: 2, Rs2: 3})
		checkText(t, api.Inst{Op: op, Pred: 3, Succ: 3})
		checkText(t, api.Inst{Op: op, Imm: 4, Aq: true, Rl: true})
	}
}

// P9.1 and P9.4: every operation with each register that it has from 0 to 31, and with each that it hasn't.
func TestRegisters(t *testing.T) {
	for op := 1; op <= api.MaxOp; op++ {
		for _, i := range []api.Inst{plain(op), full(op)} {
			for _, r := range numbers() {
				a, b, c := i, i, i
				a.Rd, b.Rs1, c.Rs2 = r, r, r
				checkText(t, a)
				checkText(t, b)
				checkText(t, c)
			}
		}
		for d := -1; d <= 32; d++ {
			for a := -1; a <= 32; a++ {
				i := plain(op)
				i.Rd, i.Rs1, i.Rs2 = d, a, 31-d
				checkText(t, i)
				i.Rs2 = 0
				checkText(t, i)
				i.Rd, i.Rs2 = 0, d
				checkText(t, i)
			}
		}
	}
}

// P9.1 and P9.4: every operation with immediates at both ends and beyond, about 0, odd ones, and such as have low bits.
func TestImmediates(t *testing.T) {
	for op := 1; op <= api.MaxOp; op++ {
		k, _ := kindOf(op)
		for _, i := range []api.Inst{plain(op), full(op)} {
			for _, imm := range k.immediates() {
				i.Imm = imm
				checkText(t, i)
			}
		}
		i := plain(op)
		for imm := int64(-2100); imm <= 2100; imm++ {
			i.Imm = imm * k.step
			checkText(t, i)
		}
	}
}

// P9.1 and P9.4: annotations of every operation.
func TestAnnotations(t *testing.T) {
	for op := 1; op <= api.MaxOp; op++ {
		for _, i := range []api.Inst{plain(op), full(op)} {
			for both := range 4 {
				i.Aq, i.Rl = both&2 != 0, both&1 != 0
				checkText(t, i)
			}
		}
	}
}

// P9.1 and P9.4: fences with all their sets, and with such as are none; so other operations.
func TestSets(t *testing.T) {
	for op := 1; op <= api.MaxOp; op++ {
		i := plain(op)
		for i.Pred = -3; i.Pred < 35; i.Pred++ {
			for i.Succ = -3; i.Succ < 35; i.Succ++ {
				checkText(t, i)
			}
		}
		for _, n := range numbers() {
			a, b := plain(op), full(op)
			a.Pred, b.Succ = n, n
			checkText(t, a)
			checkText(t, b)
			a, b = full(op), plain(op)
			a.Pred, b.Succ = n, n
			checkText(t, a)
			checkText(t, b)
		}
	}
}

// P9.1 and P9.4: many instructions, right ones and wrong ones; unlike ones that are right have unlike texts.
func TestManyInstructions(t *testing.T) {
	texts, d := map[string]api.Inst{}, draw(9)
	for range 300_000 {
		i := d.inst()
		checkText(t, i)
		s, e := show.Text(i)
		if e != api.OK {
			continue
		}
		if other, ok := texts[s]; ok && other != i {
			t.Fatalf("%q is of %+v and %+v", s, i, other)
		}
		texts[s] = i
	}
	if len(texts) < 100_000 {
		t.Errorf("%d texts", len(texts))
	}
}
