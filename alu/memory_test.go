package alu_test

import (
	"math"
	"testing"

	"undertow/alu"
	"undertow/api"
)

// P8.2: addresses as they are written down.
func TestAddressWritten(t *testing.T) {
	for _, c := range []struct {
		op      int
		imm     int64
		a, want uint64
	}{
		{api.LB, 1, 2, 3}, {api.LD, -8, 16, 8}, {api.LWU, -8, 0, of(-8)}, {api.LHU, 8, of(-4), 4}, {api.SB, 2047, 1, 2048}, {api.SD, -2048, 0, of(-2048)}, {api.SW, 4, of(-4), 0},
		{api.LRW, 8, 16, 16}, {api.LRD, -8, of(-1), of(-1)}, {api.SCW, 8, 16, 16}, {api.SCD, 8, 3, 3}, {api.SWAPW, 8, 16, 16}, {api.MAXUD, -8, 16, 16}, {api.MINW, 1, 0, 0},
		{api.LUI, 8, 16, 0}, {api.JALR, 8, 16, 0}, {api.BEQ, 8, 16, 0}, {api.ADDI, 8, 16, 0}, {api.SUB, 8, 16, 0}, {api.FENCE, 8, 16, 0}, {api.TSO, 8, 16, 0}, {api.ECALL, 8, 16, 0}, {api.EBREAK, 8, 16, 0},
	} {
		if got := alu.Address(inst(c.op, c.imm), c.a); got != c.want {
			t.Errorf("%d %d of %x: %x, not %x", c.op, c.imm, c.a, got, c.want)
		}
	}
}

// P8.2: what is loaded, as it is written down.
func TestLoadedWritten(t *testing.T) {
	for _, c := range []struct {
		op        int
		raw, want uint64
	}{
		{api.LB, 0x180, 0xffffffffffffff80}, {api.LB, 0xff7f, 0x7f}, {api.LBU, 0x180, 0x80}, {api.LBU, 0xffff, 0xff},
		{api.LH, 0x18000, 0xffffffffffff8000}, {api.LH, 0xf7fff, 0x7fff}, {api.LHU, 0x18000, 0x8000}, {api.LHU, of(-1), 0xffff},
		{api.LW, 0x180000000, 0xffffffff80000000}, {api.LW, 0x17fffffff, 0x7fffffff}, {api.LWU, 0x180000000, 0x80000000}, {api.LWU, of(-1), 0xffffffff},
		{api.LD, 0x8123456789abcdef, 0x8123456789abcdef}, {api.LD, 5, 5},
		{api.LRW, 0x180000000, 0xffffffff80000000}, {api.LRW, 0x17fffffff, 0x7fffffff}, {api.LRD, 1 << 63, 1 << 63}, {api.LRD, 0x80000000, 0x80000000},
		{api.SWAPW, 0x180000000, 0xffffffff80000000}, {api.MINUW, of(-1), of(-1)}, {api.MAXUW, 0xffffffff, of(-1)}, {api.AMOADDW, 0x17fffffff, 0x7fffffff}, {api.MAXUD, 0x80000000, 0x80000000}, {api.SWAPD, 1 << 63, 1 << 63},
		{api.SB, 1, 0}, {api.SD, 1, 0}, {api.SCW, 1, 0}, {api.SCD, 1, 0}, {api.ADD, 1, 0}, {api.LUI, 1, 0}, {api.BGEU, 1, 0}, {api.JALR, 1, 0}, {api.FENCE, 1, 0}, {api.TSO, 1, 0}, {api.ECALL, 1, 0}, {api.EBREAK, 1, 0}, {api.SRAW, 1, 0},
	} {
		if got := alu.Loaded(c.op, c.raw); got != c.want {
			t.Errorf("%d of %x: %x, not %x", c.op, c.raw, got, c.want)
		}
	}
}

// P8.2: what is stored, as it is written down: both sizes, both signs, bits above the low 32.
func TestStoredWritten(t *testing.T) {
	for _, c := range []struct {
		op           int
		old, b, want uint64
	}{
		{api.SB, 9, 0x1ff, 0xff}, {api.SH, 9, 0x1ffff, 0xffff}, {api.SW, 9, of(-1), 0xffffffff}, {api.SD, 9, of(-1), of(-1)}, {api.SCW, 9, 0x1ffffffff, 0xffffffff}, {api.SCD, 9, of(-2), of(-2)},
		{api.SWAPW, 1, 2, 2}, {api.SWAPW, 1, of(-1), 0xffffffff}, {api.SWAPD, 1, of(-1), of(-1)},
		{api.AMOADDW, 0xffffffff, 2, 1}, {api.AMOADDW, 0x7fffffff, 1, 0x80000000}, {api.AMOADDD, 0xffffffff, 2, 0x100000001}, {api.AMOADDD, of(-1), 2, 1},
		{api.AMOXORW, 0xf0, of(-1), 0xffffff0f}, {api.AMOXORD, 6, 3, 5}, {api.AMOXORD, 0xf0, of(-1), 0xffffffffffffff0f},
		{api.AMOANDW, of(-1), 0x180000001, 0x80000001}, {api.AMOANDD, of(-1), 0x180000001, 0x180000001}, {api.AMOANDD, 0b1100, 0b1010, 0b1000},
		{api.AMOORW, 0x100000000, 1, 1}, {api.AMOORW, 1 << 31, 1, 0x80000001}, {api.AMOORD, 0x100000000, 1, 0x100000001},
		{api.MINW, 0xffffffff, 1, 0xffffffff}, {api.MINW, 1, 0xffffffff, 0xffffffff}, {api.MINW, 0x100000005, 6, 5}, {api.MINW, 6, of(5 - 1<<40), 5},
		{api.MAXW, 0xffffffff, 1, 1}, {api.MAXW, 1, 0xffffffff, 1}, {api.MAXW, 0x7fffffff, 0x80000000, 0x7fffffff}, {api.MAXW, 0x100000005, 6, 6},
		{api.MINUW, 0xffffffff, 1, 1}, {api.MINUW, 1, 0xffffffff, 1}, {api.MINUW, 0x80000000, 0x7fffffff, 0x7fffffff}, {api.MINUW, 0x100000005, 6, 5}, {api.MINUW, 6, 0x100000005, 5},
		{api.MAXUW, 0xffffffff, 1, 0xffffffff}, {api.MAXUW, 1, of(-1), 0xffffffff}, {api.MAXUW, 0x80000000, 0x7fffffff, 0x80000000}, {api.MAXUW, 0x100000005, 6, 6}, {api.MAXUW, 6, 0x100000005, 6},
		{api.MIND, 0xffffffff, 1, 1}, {api.MIND, of(-1), 1, of(-1)}, {api.MIND, 1 << 63, 1<<63 - 1, 1 << 63},
		{api.MAXD, 5, of(-1), 5}, {api.MAXD, 0xffffffff, 1, 0xffffffff}, {api.MAXD, 1 << 63, 1<<63 - 1, 1<<63 - 1},
		{api.MINUD, of(-1), 1, 1}, {api.MINUD, 1 << 63, 1<<63 - 1, 1<<63 - 1}, {api.MINUD, 0x100000005, 6, 6},
		{api.MAXUD, 5, of(-1), of(-1)}, {api.MAXUD, 1 << 63, 1<<63 - 1, 1 << 63}, {api.MAXUD, 0x100000005, 6, 0x100000005},
		{api.LW, 1, 2, 0}, {api.LBU, 1, 2, 0}, {api.LRW, 1, 2, 0}, {api.LRD, 1, 2, 0}, {api.ADD, 1, 2, 0}, {api.BEQ, 1, 2, 0}, {api.FENCE, 1, 2, 0}, {api.EBREAK, 1, 2, 0},
	} {
		if got := alu.Stored(c.op, c.old, c.b); got != c.want {
			t.Errorf("%d of %x, %x: %x, not %x", c.op, c.old, c.b, got, c.want)
		}
	}
}

// bytesSame holds what an operation loads and stores against the model.
func bytesSame(t *testing.T, k twin, old, b uint64) {
	t.Helper()
	if got, want := alu.Loaded(k.op, old), modelLoaded(k, old); got != want {
		t.Errorf("%d: loaded of %x: %x, not %x", k.op, old, got, want)
	}
	if got, want := alu.Stored(k.op, old, b), modelStored(k, old, b); got != want {
		t.Errorf("%d: stored of %x, %x: %x, not %x", k.op, old, b, got, want)
	}
}

// P8.2: every operation on bytes at the ends of each size, and on such as are drawn.
func TestBytes(t *testing.T) {
	d := draw(82)
	for _, k := range twins {
		for _, x := range words() {
			for _, y := range words() {
				bytesSame(t, k, x, y)
			}
		}
		for range 1000 {
			x := d.word()
			bytesSame(t, k, x, d.word())
			bytesSame(t, k, x, x)
			bytesSame(t, k, x, x^1<<32)
			bytesSame(t, k, x, x^1<<31)
		}
	}
}

// P8.4: MIN and MAX of two are the two, with signs and as words.
func TestLeastAndGreatest(t *testing.T) {
	for _, c := range []struct {
		least, greatest int
		bits            uint
	}{{api.MINW, api.MAXW, 32}, {api.MINUW, api.MAXUW, 32}, {api.MIND, api.MAXD, 64}, {api.MINUD, api.MAXUD, 64}} {
		for _, a := range words() {
			for _, b := range words() {
				lo, hi := alu.Stored(c.least, a, b), alu.Stored(c.greatest, a, b)
				x, y := plain(a, c.bits).Uint64(), plain(b, c.bits).Uint64()
				if !(lo == x && hi == y || lo == y && hi == x) {
					t.Errorf("%d and %d of %x, %x: %x and %x", c.least, c.greatest, a, b, lo, hi)
				}
			}
		}
	}
}

// P8.3: places as they are written down.
func TestWhereWritten(t *testing.T) {
	for _, c := range []struct {
		op   int
		addr uint64
		size int
		want api.Errno
	}{
		{api.LB, 0, 1, api.OK}, {api.LB, 1, 1, api.ErrRange}, {api.LB, 0, 0, api.ErrRange}, {api.SB, 0, -1, api.ErrRange}, {api.SB, 7, 8, api.OK},
		{api.LH, 0, 1, api.ErrRange}, {api.LH, 0, 2, api.OK}, {api.LHU, 1, 8, api.ErrAlign}, {api.SH, 6, 8, api.OK}, {api.SH, 8, 8, api.ErrRange}, {api.SH, 6, 7, api.ErrRange},
		{api.LW, 2, 8, api.ErrAlign}, {api.LW, 3, 8, api.ErrAlign}, {api.LW, 5, 8, api.ErrAlign}, {api.LW, 4, 8, api.OK}, {api.LW, 4, 7, api.ErrRange}, {api.LWU, 8, 8, api.ErrRange}, {api.SW, 1020, 1024, api.OK}, {api.SW, 1024, 1024, api.ErrRange},
		{api.LD, 0, 7, api.ErrRange}, {api.LD, 0, 8, api.OK}, {api.LD, 4, 16, api.ErrAlign}, {api.SD, 7, 16, api.ErrAlign}, {api.SD, 9, 16, api.ErrAlign}, {api.SD, 8, 16, api.OK}, {api.SD, 8, 15, api.ErrRange},
		{api.LRW, 4, 8, api.OK}, {api.LRW, 6, 4, api.ErrAlign}, {api.LRD, 4, 8, api.ErrAlign}, {api.SCW, 4, 4, api.ErrRange}, {api.SCD, 0, 8, api.OK}, {api.SWAPW, 4, 8, api.OK}, {api.MAXUW, 2, 0, api.ErrAlign}, {api.SWAPD, 4, 8, api.ErrAlign}, {api.MAXUD, 8, 8, api.ErrRange}, {api.MINUD, 8, 16, api.OK},
		{api.LD, 12, 8, api.ErrAlign}, {api.LW, 9, 0, api.ErrAlign}, {api.LW, 9, -5, api.ErrAlign}, {api.LW, 8, math.MinInt, api.ErrRange}, {api.LW, 0, math.MinInt, api.ErrRange},
		{api.LB, math.MaxUint64, 8, api.ErrRange}, {api.LB, math.MaxUint64, math.MaxInt, api.ErrRange}, {api.LH, math.MaxUint64, math.MaxInt, api.ErrAlign}, {api.LH, math.MaxUint64 - 1, math.MaxInt, api.ErrRange}, {api.LD, math.MaxUint64 - 7, math.MaxInt, api.ErrRange}, {api.LD, math.MaxUint64 - 7, -8, api.ErrRange}, {api.LD, math.MaxUint64 - 6, 8, api.ErrAlign},
		{api.LB, 1 << 63, math.MaxInt, api.ErrRange}, {api.LB, 1<<63 - 1, math.MaxInt, api.ErrRange}, {api.LB, 1<<63 - 2, math.MaxInt, api.OK}, {api.LD, 1<<63 - 8, math.MaxInt, api.ErrRange}, {api.LD, 1<<63 - 16, math.MaxInt, api.OK}, {api.LW, 1 << 32, 8, api.ErrRange}, {api.LW, 1<<32 + 1, 8, api.ErrAlign}, {api.LW, 1 << 32, 1<<32 + 4, api.OK}, {api.LW, 1 << 63, 8, api.ErrRange}, {api.LW, 1 << 63, math.MinInt, api.ErrRange},
		{api.ADD, 3, 0, api.OK}, {api.LUI, math.MaxUint64, 0, api.OK}, {api.FENCE, 1, -1, api.OK}, {api.ECALL, 1, 0, api.OK}, {api.BEQ, 9, 8, api.OK}, {api.JALR, 9, 8, api.OK}, {api.ADDI, 9, 8, api.OK},
	} {
		if got := alu.Where(c.op, c.addr, c.size); got != c.want {
			t.Errorf("%d at %x of %d: %d, not %d", c.op, c.addr, c.size, got, c.want)
		}
	}
}

// P8.3: every operation at, behind and ahead of each multiple, in memories of each size.
func TestWhere(t *testing.T) {
	for _, k := range twins {
		for size := -9; size <= 40; size++ {
			for addr := range uint64(60) {
				for _, beyond := range []uint64{0, 1 << 32, 1 << 63, of(-60)} {
					if got, want := alu.Where(k.op, addr+beyond, size), modelWhere(k, addr+beyond, size); got != want {
						t.Errorf("%d at %x of %d: %d, not %d", k.op, addr+beyond, size, got, want)
					}
				}
			}
		}
		d := draw(83)
		for range 2000 {
			addr, size := d.word(), int(d.word())
			if d.of(2) == 0 {
				size = int(addr) + d.of(20)
			}
			if got, want := alu.Where(k.op, addr, size), modelWhere(k, addr, size); got != want {
				t.Errorf("%d at %x of %d: %d, not %d", k.op, addr, size, got, want)
			}
		}
	}
}
