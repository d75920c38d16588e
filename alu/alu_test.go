package alu_test

import (
	"testing"

	"undertow/alu"
	"undertow/api"
)

// of is a number's word.
func of(n int64) uint64 { return uint64(n) }

// inst is an instruction of an operation that has everything else too, of which no call may ask but for the immediate.
func inst(op int, imm int64) api.Inst {
	return api.Inst{Op: op, Rd: 7, Rs1: 5, Rs2: 6, Imm: imm, Aq: true, Rl: true, Pred: 9, Succ: 3}
}

// The tests' own table has every operation once.
func TestTwins(t *testing.T) {
	for n, k := range twins {
		if k.op != n+1 {
			t.Errorf("%d stands at %d", k.op, n)
		}
	}
	if len(twins) != api.MaxOp {
		t.Errorf("%d operations", len(twins))
	}
}

// P8.1: results as they are written down.
func TestResultWritten(t *testing.T) {
	for _, c := range []struct {
		op         int
		imm        int64
		pc, a, b   uint64
		want, next uint64
	}{
		{api.LUI, 0x12345000, 8, 1, 2, 0x12345000, 12},
		{api.LUI, -0x80000000, 8, 1, 2, 0xffffffff80000000, 12},
		{api.LUI, 7, 8, 1, 2, 7, 12},
		{api.AUIPC, 0x1000, 8, 1, 2, 0x1008, 12},
		{api.AUIPC, -0x1000, 8, 1, 2, 0xfffffffffffff008, 12},
		{api.AUIPC, 0x7ffff000, 0xffffffffffffff00, 1, 2, 0x7fffef00, 0xffffffffffffff04},
		{api.JAL, 16, 8, 1, 2, 12, 24},
		{api.JAL, -16, 8, 1, 2, 12, of(-8)},
		{api.JAL, 8, of(-4), 1, 2, 0, 4},
		{api.JAL, 3, 8, 1, 2, 12, 11},
		{api.JALR, 0, 8, 100, 2, 12, 100},
		{api.JALR, 1, 8, 100, 2, 12, 100},
		{api.JALR, 1, 8, 101, 2, 12, 102},
		{api.JALR, -1, 8, 0, 2, 12, of(-2)},
		{api.JALR, 5, of(-4), of(-4), 2, 0, 0},
		{api.JALR, 2047, 8, of(-1), 2, 12, 2046},
		{api.ADDI, 5, 8, 7, 9, 12, 12},
		{api.ADDI, -1, 8, 0, 9, of(-1), 12},
		{api.ADDI, 1, 8, of(-1), 9, 0, 12},
		{api.ADDI, 1, 8, 0x7fffffffffffffff, 9, 0x8000000000000000, 12},
		{api.SLTI, -1, 8, of(-2), 0, 1, 12},
		{api.SLTI, -1, 8, of(-1), 0, 0, 12},
		{api.SLTI, 0, 8, 1 << 63, 0, 1, 12},
		{api.SLTI, 0, 8, 1<<63 - 1, 0, 0, 12},
		{api.SLTI, 5, 8, 4, 0, 1, 12},
		{api.SLTIU, -1, 8, 5, 0, 1, 12},
		{api.SLTIU, 1, 8, of(-1), 0, 0, 12},
		{api.SLTIU, 1, 8, 0, 0, 1, 12},
		{api.SLTIU, 1, 8, 1, 0, 0, 12},
		{api.XORI, -1, 8, 0xf0, 0, 0xffffffffffffff0f, 12},
		{api.ORI, -16, 8, 3, 0, 0xfffffffffffffff3, 12},
		{api.ANDI, -16, 8, 0xffffffff12345678, 0, 0xffffffff12345670, 12},
		{api.SLLI, 63, 8, 3, 0, 1 << 63, 12},
		{api.SLLI, 0, 8, 3, 9, 3, 12},
		{api.SLLI, 32, 8, 3, 9, 3 << 32, 12},
		{api.SLLI, 65, 8, 3, 9, 6, 12},
		{api.SRLI, 63, 8, of(-2), 0, 1, 12},
		{api.SRLI, 32, 8, of(-1), 0, 0xffffffff, 12},
		{api.SRAI, 1, 8, of(-2), 0, of(-1), 12},
		{api.SRAI, 63, 8, 1 << 63, 0, of(-1), 12},
		{api.SRAI, 63, 8, 1<<63 - 1, 0, 0, 12},
		{api.SRAI, 64, 8, of(-2), 0, of(-2), 12},
		{api.SRAI, -1, 8, of(-2), 0, of(-1), 12},
		{api.ADDIW, 1, 8, 0x7fffffff, 0, 0xffffffff80000000, 12},
		{api.ADDIW, 0, 8, 0x1_8000_0000, 0, 0xffffffff80000000, 12},
		{api.ADDIW, -1, 8, 0xffffffff80000000, 0, 0x7fffffff, 12},
		{api.SLLIW, 31, 8, 1, 0, 0xffffffff80000000, 12},
		{api.SLLIW, 32, 8, 1, 0, 1, 12},
		{api.SLLIW, 4, 8, 0xf8000001, 0, 0xffffffff80000010, 12},
		{api.SRLIW, 0, 8, 0x80000000, 0, 0xffffffff80000000, 12},
		{api.SRLIW, 1, 8, 0xffffffff80000000, 0, 0x40000000, 12},
		{api.SRLIW, 33, 8, 0xffffffff80000000, 0, 0x40000000, 12},
		{api.SRAIW, 31, 8, 0x80000000, 0, of(-1), 12},
		{api.SRAIW, 31, 8, 0xffffffff7fffffff, 0, 0, 12},
		{api.SRAIW, 4, 8, 0x180000000, 0, 0xfffffffff8000000, 12},
		{api.ADD, 9, 8, of(-1), 2, 1, 12},
		{api.ADD, 9, 8, 1 << 63, 1 << 63, 0, 12},
		{api.SUB, 9, 8, 1, 2, of(-1), 12},
		{api.SUB, 9, 8, 1 << 63, 1, 1<<63 - 1, 12},
		{api.SLL, 9, 8, 1, 67, 8, 12},
		{api.SLL, 9, 8, 1, of(-1), 1 << 63, 12},
		{api.SLT, 9, 8, of(-1), 0, 1, 12},
		{api.SLT, 9, 8, 0, of(-1), 0, 12},
		{api.SLT, 9, 8, 1 << 63, 1<<63 - 1, 1, 12},
		{api.SLTU, 9, 8, of(-1), 0, 0, 12},
		{api.SLTU, 9, 8, 0, of(-1), 1, 12},
		{api.XOR, 9, 8, 0b1100, 0b1010, 0b0110, 12},
		{api.SRL, 9, 8, 1 << 63, 127, 1, 12},
		{api.SRA, 9, 8, 1 << 63, 127, of(-1), 12},
		{api.SRA, 9, 8, of(-8), 64, of(-8), 12},
		{api.OR, 9, 8, 0b1100, 0b1010, 0b1110, 12},
		{api.AND, 9, 8, 0b1100, 0b1010, 0b1000, 12},
		{api.ADDW, 9, 8, 0x7fffffff, 1, 0xffffffff80000000, 12},
		{api.ADDW, 9, 8, 0xffffffff, 1, 0, 12},
		{api.SUBW, 9, 8, 0, 1, of(-1), 12},
		{api.SUBW, 9, 8, 0xffffffff80000000, 1, 0x7fffffff, 12},
		{api.SLLW, 9, 8, 1, 63, 0xffffffff80000000, 12},
		{api.SLLW, 9, 8, 1, 32, 1, 12},
		{api.SRLW, 9, 8, of(-1), 4, 0x0fffffff, 12},
		{api.SRLW, 9, 8, of(-1), 32, of(-1), 12},
		{api.SRAW, 9, 8, 0x80000000, 36, 0xfffffffff8000000, 12},
		{api.SRAW, 9, 8, 0x7fffffff, 63, 0, 12},
		{api.BEQ, 16, 8, 3, 3, 0, 24},
		{api.BEQ, 16, 8, 3, 4, 0, 12},
		{api.BNE, -8, 8, 3, 4, 0, 0},
		{api.BNE, -8, 8, 3, 3, 0, 12},
		{api.BLT, 8, of(-4), of(-1), 0, 0, 4},
		{api.BGEU, 8, of(-4), 0, of(-1), 0, 0},
		{api.LW, 16, 8, 3, 4, 0, 12},
		{api.SD, 16, 8, 3, 4, 0, 12},
		{api.FENCE, 16, 8, 3, 4, 0, 12},
		{api.TSO, 16, 8, 3, 4, 0, 12},
		{api.ECALL, 16, 8, 3, 4, 0, 12},
		{api.EBREAK, 16, 8, 3, 4, 0, 12},
		{api.LRD, 16, 8, 3, 4, 0, 12},
		{api.SCW, 16, of(-4), 3, 4, 0, 0},
		{api.AMOADDD, 16, 8, 3, 4, 0, 12},
		{api.MAXUD, 16, 8, 3, 4, 0, 12},
	} {
		i := inst(c.op, c.imm)
		if got, next := alu.Result(i, c.pc, c.a, c.b), alu.Next(i, c.pc, c.a, c.b); got != c.want || next != c.next {
			t.Errorf("%d %d at %x of %x, %x: %x, then %x", c.op, c.imm, c.pc, c.a, c.b, got, next)
		}
	}
}

// P8.1: branches as they are written down, each taken and not, where both signs tell it the same way and where not.
func TestTakenWritten(t *testing.T) {
	low, high := uint64(1)<<63, uint64(1)<<63-1
	for _, c := range []struct {
		a, b                      uint64
		eq, ne, lt, ge, ltu, bgeu bool
	}{
		{0, 0, true, false, false, true, false, true},
		{1, 2, false, true, true, false, true, false},
		{2, 1, false, true, false, true, false, true},
		{of(-1), of(-1), true, false, false, true, false, true},
		{of(-1), 0, false, true, true, false, false, true},
		{0, of(-1), false, true, false, true, true, false},
		{of(-2), of(-1), false, true, true, false, true, false},
		{low, high, false, true, true, false, false, true},
		{high, low, false, true, false, true, true, false},
		{low, low, true, false, false, true, false, true},
		{0x80000000, 0x7fffffff, false, true, false, true, false, true},
		{0x1_0000_0000, 0, false, true, false, true, false, true},
		{3, 3 + 1<<32, false, true, true, false, true, false},
	} {
		for op, want := range map[int]bool{api.BEQ: c.eq, api.BNE: c.ne, api.BLT: c.lt, api.BGE: c.ge, api.BLTU: c.ltu, api.BGEU: c.bgeu} {
			next := uint64(104)
			if want {
				next = 60
			}
			if i := inst(op, -40); alu.Taken(i, c.a, c.b) != want || alu.Next(i, 100, c.a, c.b) != next {
				t.Errorf("%d of %x, %x: %t, then %d", op, c.a, c.b, !want, alu.Next(i, 100, c.a, c.b))
			}
		}
	}
}

// same holds an instruction of a known operation against the model.
func same(t *testing.T, k twin, imm int64, pc, a, b uint64) {
	t.Helper()
	i := inst(k.op, imm)
	if got, want := alu.Result(i, pc, a, b), modelResult(k, i, pc, a, b); got != want {
		t.Errorf("%d %d at %x of %x, %x: %x, not %x", k.op, imm, pc, a, b, got, want)
	}
	if got, want := alu.Taken(i, a, b), modelTaken(k, a, b); got != want {
		t.Errorf("%d of %x, %x: taken %t", k.op, a, b, got)
	}
	if got, want := alu.Next(i, pc, a, b), modelNext(k, i, pc, a, b); got != want {
		t.Errorf("%d %d at %x of %x, %x: then %x, not %x", k.op, imm, pc, a, b, got, want)
	}
	if got, want := alu.Address(i, a), modelAddress(k, i, a); got != want {
		t.Errorf("%d %d of %x: address %x, not %x", k.op, imm, a, got, want)
	}
	if alu.Result(i, pc, a, b) != alu.Result(api.Inst{Op: k.op, Imm: imm}, pc, a, b) {
		t.Errorf("%d: it hangs on more than the immediate", k.op)
	}
}

// P8.1, P8.2: every operation on words at the ends of 64 and of 32 bits, as registers and as immediates.
func TestEnds(t *testing.T) {
	l := words()
	for _, k := range twins {
		for n, x := range l {
			for m, y := range l {
				same(t, k, int64(y), l[(n+m)%len(l)], x, l[(n*7+m*3)%len(l)])
				same(t, k, int64(l[(n*5+m)%len(l)]), y, x, y)
			}
		}
	}
}

// P8.1: shifts by each number of bits, and by such as have bits above those that count.
func TestShifts(t *testing.T) {
	for _, k := range twins {
		if k.kind != immediate && k.kind != pair {
			continue
		}
		for by := range uint64(200) {
			for _, above := range []uint64{0, 1 << 32, 1 << 63, 0xffff_ffff_ffff_ff00} {
				for _, x := range []uint64{1, 3, of(-1), of(-2), 1 << 63, 1<<63 - 1, 1 << 31, 1<<31 - 1, 0xffff_ffff, 0x0123_4567_89ab_cdef, 0xfedc_ba98_7654_3210} {
					same(t, k, int64(above+by), 0, x, above+by)
				}
			}
		}
	}
}

// P8.1, P8.2: every operation on words that are drawn.
func TestDrawn(t *testing.T) {
	d := draw(8)
	for range 1000 {
		for _, k := range twins {
			same(t, k, int64(d.word()), d.word(), d.word(), d.word())
			x := d.word()
			same(t, k, int64(x), d.word(), x, x)
			same(t, k, int64(d.of(4096)-2048), uint64(4*d.of(256)), x, x+uint64(d.of(3))-1)
		}
	}
}

// P8.1, P8.2: numbers of no operation.
func TestNoOperation(t *testing.T) {
	d := draw(81)
	for _, op := range notOps() {
		for range 5 {
			i, pc, a, b := inst(op, int64(d.word())), d.word(), d.word(), d.word()
			if alu.Result(i, pc, a, b) != 0 || alu.Taken(i, a, b) || alu.Taken(i, a, a) || alu.Next(i, pc, a, b) != pc+4 || alu.Next(i, pc, a, a) != pc+4 {
				t.Errorf("%d: %x %t, then %x", op, alu.Result(i, pc, a, b), alu.Taken(i, a, b), alu.Next(i, pc, a, b))
			}
			if alu.Address(i, a) != 0 || alu.Loaded(op, a) != 0 || alu.Stored(op, a, b) != 0 {
				t.Errorf("%d: %x %x %x", op, alu.Address(i, a), alu.Loaded(op, a), alu.Stored(op, a, b))
			}
			for _, size := range []int{0, 3, -1, 1024} {
				if e := alu.Where(op, a, size); e != api.OK {
					t.Errorf("%d: %d", op, e)
				}
			}
		}
	}
}

// P8.4: an immediate's operation is the pair's with the immediate in b.
func TestImmediateAsPair(t *testing.T) {
	d := draw(84)
	for op, of := range map[int]int{
		api.ADDI: api.ADD, api.SLTI: api.SLT, api.SLTIU: api.SLTU, api.XORI: api.XOR, api.ORI: api.OR, api.ANDI: api.AND,
		api.SLLI: api.SLL, api.SRLI: api.SRL, api.SRAI: api.SRA,
		api.ADDIW: api.ADDW, api.SLLIW: api.SLLW, api.SRLIW: api.SRLW, api.SRAIW: api.SRAW,
	} {
		for range 500 {
			a, b, c := d.word(), d.word(), d.word()
			if got, want := alu.Result(inst(op, int64(b)), 0, a, c), alu.Result(inst(of, int64(c)), 4, a, b); got != want {
				t.Errorf("%d of %x and %x: %x, not %x", op, a, b, got, want)
			}
		}
	}
}

// P8.4: of a branch and its opposite just one is taken.
func TestOpposites(t *testing.T) {
	for _, a := range words() {
		for _, b := range words() {
			for _, op := range []int{api.BEQ, api.BLT, api.BLTU} {
				if alu.Taken(inst(op, 8), a, b) == alu.Taken(inst(op+1, 8), a, b) {
					t.Errorf("%d of %x and %x, and its opposite", op, a, b)
				}
			}
		}
	}
}

// P8.4: SUB turns ADD back; shifting to the left and back without sign keeps the low bits.
func TestBack(t *testing.T) {
	d := draw(4)
	for range 2000 {
		a, b := d.word(), d.word()
		if got := alu.Result(inst(api.SUB, 0), 0, alu.Result(inst(api.ADD, 0), 0, a, b), b); got != a {
			t.Errorf("%x and %x: back to %x", a, b, got)
		}
		by := b % 64
		if got, want := alu.Result(inst(api.SRL, 0), 0, alu.Result(inst(api.SLL, 0), 0, a, b), b), a&(1<<(64-by)-1); got != want {
			t.Errorf("%x by %d: %x, not %x", a, by, got, want)
		}
		by = b % 32
		if got, want := alu.Result(inst(api.SRLW, 0), 0, alu.Result(inst(api.SLLW, 0), 0, a, b), b), a&(1<<(32-by)-1); by > 0 && got != want {
			t.Errorf("%x of 32 bits by %d: %x, not %x", a, by, got, want)
		}
	}
}
