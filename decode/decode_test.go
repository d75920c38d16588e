package decode_test

import (
	"math"
	"slices"
	"testing"

	"undertow/api"
	"undertow/decode"
)

// check holds a word against the table.
func check(t *testing.T, w uint32) {
	t.Helper()
	i, e := decode.Decode(w)
	want, wantE := told(w)
	if i != want || e != wantE {
		t.Fatalf("%08x: %+v %v, not %+v %v", w, i, e, want, wantE)
	}
	if e == api.OK && (w&0x7f != decode.Opcode(i.Op) || decode.Clean(i) != i) {
		t.Fatalf("%08x: opcode %x, clean %+v", w, decode.Opcode(i.Op), decode.Clean(i))
	}
}

// illegal holds that a word is no instruction.
func illegal(t *testing.T, w uint32) {
	t.Helper()
	if i, e := decode.Decode(w); e != api.ErrIllegal || i != (api.Inst{}) {
		t.Fatalf("%08x: %+v %v", w, i, e)
	}
}

// is holds that a word is of an operation; of 0, that it is illegal.
func is(t *testing.T, w uint32, op int) {
	t.Helper()
	if op == 0 {
		illegal(t, w)
		return
	}
	if i, e := decode.Decode(w); e != api.OK || i.Op != op {
		t.Fatalf("%08x: operation %d %v, not %d", w, i.Op, e, op)
	}
}

// P6.1: as it is written down.
func TestWrittenDown(t *testing.T) {
	for _, c := range []struct {
		w uint32
		i api.Inst
	}{
		{0xfff5_0537, api.Inst{Op: api.LUI, Rd: 10, Imm: -720896}},
		{0x7fff_ffb7, api.Inst{Op: api.LUI, Rd: 31, Imm: 2147479552}},
		{0x8000_0297, api.Inst{Op: api.AUIPC, Rd: 5, Imm: -2147483648}},
		{0x0000_1f97, api.Inst{Op: api.AUIPC, Rd: 31, Imm: 4096}},
		{0x7fe0_00ef, api.Inst{Op: api.JAL, Rd: 1, Imm: 2046}},
		{0xffdf_f06f, api.Inst{Op: api.JAL, Imm: -4}},
		{0x7fff_ffef, api.Inst{Op: api.JAL, Rd: 31, Imm: 1048574}},
		{0x8000_00ef, api.Inst{Op: api.JAL, Rd: 1, Imm: -1048576}},
		{0x7ff1_00e7, api.Inst{Op: api.JALR, Rd: 1, Rs1: 2, Imm: 2047}},
		{0x800f_8067, api.Inst{Op: api.JALR, Rs1: 31, Imm: -2048}},
		{0x7e20_8fe3, api.Inst{Op: api.BEQ, Rs1: 1, Rs2: 2, Imm: 4094}},
		{0xfe00_0ee3, api.Inst{Op: api.BEQ, Imm: -4}},
		{0x81ef_9063, api.Inst{Op: api.BNE, Rs1: 31, Rs2: 30, Imm: -4096}},
		{0x0062_c463, api.Inst{Op: api.BLT, Rs1: 5, Rs2: 6, Imm: 8}},
		{0x0083_d863, api.Inst{Op: api.BGE, Rs1: 7, Rs2: 8, Imm: 16}},
		{0x02a4_e063, api.Inst{Op: api.BLTU, Rs1: 9, Rs2: 10, Imm: 32}},
		{0xfec5_ffe3, api.Inst{Op: api.BGEU, Rs1: 11, Rs2: 12, Imm: -2}},
		{0xfff1_0083, api.Inst{Op: api.LB, Rd: 1, Rs1: 2, Imm: -1}},
		{0x0022_1183, api.Inst{Op: api.LH, Rd: 3, Rs1: 4, Imm: 2}},
		{0xff81_2283, api.Inst{Op: api.LW, Rd: 5, Rs1: 2, Imm: -8}},
		{0x7ff3_b303, api.Inst{Op: api.LD, Rd: 6, Rs1: 7, Imm: 2047}},
		{0x8004_c403, api.Inst{Op: api.LBU, Rd: 8, Rs1: 9, Imm: -2048}},
		{0x0005_d503, api.Inst{Op: api.LHU, Rd: 10, Rs1: 11}},
		{0x001f_ef83, api.Inst{Op: api.LWU, Rd: 31, Rs1: 31, Imm: 1}},
		{0xfe11_0fa3, api.Inst{Op: api.SB, Rs1: 2, Rs2: 1, Imm: -1}},
		{0x0032_1fa3, api.Inst{Op: api.SH, Rs1: 4, Rs2: 3, Imm: 31}},
		{0x0253_2023, api.Inst{Op: api.SW, Rs1: 6, Rs2: 5, Imm: 32}},
		{0x81ff_b023, api.Inst{Op: api.SD, Rs1: 31, Rs2: 31, Imm: -2048}},
		{0x00b5_3023, api.Inst{Op: api.SD, Rs1: 10, Rs2: 11}},
		{0x00a0_0093, api.Inst{Op: api.ADDI, Rd: 1, Imm: 10}},
		{0xfff1_a113, api.Inst{Op: api.SLTI, Rd: 2, Rs1: 3, Imm: -1}},
		{0x7ff2_b213, api.Inst{Op: api.SLTIU, Rd: 4, Rs1: 5, Imm: 2047}},
		{0x8003_c313, api.Inst{Op: api.XORI, Rd: 6, Rs1: 7, Imm: -2048}},
		{0x0014_e413, api.Inst{Op: api.ORI, Rd: 8, Rs1: 9, Imm: 1}},
		{0xffe5_f513, api.Inst{Op: api.ANDI, Rd: 10, Rs1: 11, Imm: -2}},
		{0x03f6_9613, api.Inst{Op: api.SLLI, Rd: 12, Rs1: 13, Imm: 63}},
		{0x0206_9613, api.Inst{Op: api.SLLI, Rd: 12, Rs1: 13, Imm: 32}},
		{0x01f7_d713, api.Inst{Op: api.SRLI, Rd: 14, Rs1: 15, Imm: 31}},
		{0x43f8_d813, api.Inst{Op: api.SRAI, Rd: 16, Rs1: 17, Imm: 63}},
		{0x4018_d813, api.Inst{Op: api.SRAI, Rd: 16, Rs1: 17, Imm: 1}},
		{0x8009_891b, api.Inst{Op: api.ADDIW, Rd: 18, Rs1: 19, Imm: -2048}},
		{0x01fa_9a1b, api.Inst{Op: api.SLLIW, Rd: 20, Rs1: 21, Imm: 31}},
		{0x001b_db1b, api.Inst{Op: api.SRLIW, Rd: 22, Rs1: 23, Imm: 1}},
		{0x41fc_dc1b, api.Inst{Op: api.SRAIW, Rd: 24, Rs1: 25, Imm: 31}},
		{0x0031_00b3, api.Inst{Op: api.ADD, Rd: 1, Rs1: 2, Rs2: 3}},
		{0x40b5_0533, api.Inst{Op: api.SUB, Rd: 10, Rs1: 10, Rs2: 11}},
		{0x0062_9233, api.Inst{Op: api.SLL, Rd: 4, Rs1: 5, Rs2: 6}},
		{0x0094_23b3, api.Inst{Op: api.SLT, Rd: 7, Rs1: 8, Rs2: 9}},
		{0x00c5_b533, api.Inst{Op: api.SLTU, Rd: 10, Rs1: 11, Rs2: 12}},
		{0x00f7_46b3, api.Inst{Op: api.XOR, Rd: 13, Rs1: 14, Rs2: 15}},
		{0x0128_d833, api.Inst{Op: api.SRL, Rd: 16, Rs1: 17, Rs2: 18}},
		{0x415a_59b3, api.Inst{Op: api.SRA, Rd: 19, Rs1: 20, Rs2: 21}},
		{0x018b_eb33, api.Inst{Op: api.OR, Rd: 22, Rs1: 23, Rs2: 24}},
		{0x01bd_7cb3, api.Inst{Op: api.AND, Rd: 25, Rs1: 26, Rs2: 27}},
		{0x01ee_8e3b, api.Inst{Op: api.ADDW, Rd: 28, Rs1: 29, Rs2: 30}},
		{0x4020_8fbb, api.Inst{Op: api.SUBW, Rd: 31, Rs1: 1, Rs2: 2}},
		{0x0052_11bb, api.Inst{Op: api.SLLW, Rd: 3, Rs1: 4, Rs2: 5}},
		{0x0083_d33b, api.Inst{Op: api.SRLW, Rd: 6, Rs1: 7, Rs2: 8}},
		{0x40b5_54bb, api.Inst{Op: api.SRAW, Rd: 9, Rs1: 10, Rs2: 11}},
		{0x0ff0_000f, api.Inst{Op: api.FENCE, Pred: 15, Succ: 15}},
		{0x0310_000f, api.Inst{Op: api.FENCE, Pred: 3, Succ: 1}},
		{0x0840_000f, api.Inst{Op: api.FENCE, Pred: 8, Succ: 4}},
		{0x0230_000f, api.Inst{Op: api.FENCE, Pred: 2, Succ: 3}},
		{0x8330_000f, api.Inst{Op: api.TSO, Pred: 3, Succ: 3}},
		{0x0000_0073, api.Inst{Op: api.ECALL}},
		{0x0010_0073, api.Inst{Op: api.EBREAK}},
		{0x1005_25af, api.Inst{Op: api.LRW, Rd: 11, Rs1: 10}},
		{0x1401_20af, api.Inst{Op: api.LRW, Rd: 1, Rs1: 2, Aq: true}},
		{0x1602_31af, api.Inst{Op: api.LRD, Rd: 3, Rs1: 4, Aq: true, Rl: true}},
		{0x1821_a0af, api.Inst{Op: api.SCW, Rd: 1, Rs1: 3, Rs2: 2}},
		{0x1ab5_35af, api.Inst{Op: api.SCD, Rd: 11, Rs1: 10, Rs2: 11, Rl: true}},
		{0x0821_a0af, api.Inst{Op: api.SWAPW, Rd: 1, Rs1: 3, Rs2: 2}},
		{0x06b5_252f, api.Inst{Op: api.AMOADDW, Rd: 10, Rs1: 10, Rs2: 11, Aq: true, Rl: true}},
		{0x2053_222f, api.Inst{Op: api.AMOXORW, Rd: 4, Rs1: 6, Rs2: 5}},
		{0x6484_a3af, api.Inst{Op: api.AMOANDW, Rd: 7, Rs1: 9, Rs2: 8, Aq: true}},
		{0x42b6_252f, api.Inst{Op: api.AMOORW, Rd: 10, Rs1: 12, Rs2: 11, Rl: true}},
		{0x80e7_a6af, api.Inst{Op: api.MINW, Rd: 13, Rs1: 15, Rs2: 14}},
		{0xa119_282f, api.Inst{Op: api.MAXW, Rd: 16, Rs1: 18, Rs2: 17}},
		{0xc14a_a9af, api.Inst{Op: api.MINUW, Rd: 19, Rs1: 21, Rs2: 20}},
		{0xe17c_2b2f, api.Inst{Op: api.MAXUW, Rd: 22, Rs1: 24, Rs2: 23}},
		{0x09ad_bcaf, api.Inst{Op: api.SWAPD, Rd: 25, Rs1: 27, Rs2: 26}},
		{0x05df_3e2f, api.Inst{Op: api.AMOADDD, Rd: 28, Rs1: 30, Rs2: 29, Aq: true}},
		{0x2000_bfaf, api.Inst{Op: api.AMOXORD, Rd: 31, Rs1: 1}},
		{0x6032_312f, api.Inst{Op: api.AMOANDD, Rd: 2, Rs1: 4, Rs2: 3}},
		{0x4263_b2af, api.Inst{Op: api.AMOORD, Rd: 5, Rs1: 7, Rs2: 6, Rl: true}},
		{0x8095_342f, api.Inst{Op: api.MIND, Rd: 8, Rs1: 10, Rs2: 9}},
		{0xa0c6_b5af, api.Inst{Op: api.MAXD, Rd: 11, Rs1: 13, Rs2: 12}},
		{0xc0f8_372f, api.Inst{Op: api.MINUD, Rd: 14, Rs1: 16, Rs2: 15}},
		{0xe729_b8af, api.Inst{Op: api.MAXUD, Rd: 17, Rs1: 19, Rs2: 18, Aq: true, Rl: true}},
	} {
		if i, e := decode.Decode(c.w); i != c.i || e != api.OK {
			t.Errorf("%08x: %+v %v, not %+v", c.w, i, e, c.i)
		}
		if want, e := told(c.w); want != c.i || e != api.OK {
			t.Errorf("%08x: the table tells %+v", c.w, want)
		}
	}
}

// P6.1: words that are written down, and are none.
func TestIllegal(t *testing.T) {
	for _, w := range []uint32{
		0, math.MaxUint32, 1, 2, 3 << 30, 0x0000_0001, 0x0000_007f, 0x7fff_ffff, 0x8000_0000, 0x0000_4501, 0x0000_006b, 0x0000_0057,
		0x0000_1067, 0x0000_7067, 0x0000_2063, 0x0000_3063, 0x0000_7003, 0x0000_4023, 0x0000_7023,
		0x4000_1013, 0x0400_1013, 0x8000_5013, 0x4400_5013, 0x0200_101b, 0x0200_501b, 0x4200_501b, 0x4000_101b, 0x0000_201b, 0x0000_701b,
		0x02b5_0533, 0x40b5_1533, 0x40b5_7533, 0x2000_5033, 0x4000_103b, 0x0200_003b, 0x0000_203b, 0x0000_703b,
		0x0000_100f, 0x8330_100f, 0x0ff0_700f, 0x0020_0073, 0x1050_0073, 0x3020_0073, 0x0000_1073, 0x0000_00f3, 0x0000_8073, 0x0010_8073,
		0x1015_252f, 0x11f5_352f, 0x0005_452f, 0x0005_052f, 0x2805_252f, 0xf805_352f, 0x0000_202e, 0x0000_202d,
	} {
		illegal(t, w)
	}
}

// P6.1: every operation with all registers in each of its places, and all three of them unlike.
func TestRegisters(t *testing.T) {
	for _, p := range plans {
		for d := range 32 {
			for a := range 32 {
				for b := range 32 {
					check(t, p.word(api.Inst{Op: p.op, Rd: d, Rs1: a, Rs2: b}))
				}
			}
		}
	}
}

// P6.1: every operation with immediates at their edges, beside registers of no bit, of some and of all.
func TestImmediates(t *testing.T) {
	for _, p := range plans {
		for _, imm := range p.immediates() {
			for _, r := range []int{0, 10, 21, 31} {
				i := api.Inst{Op: p.op, Imm: imm}
				if p.has('d') {
					i.Rd = r
				}
				if p.has('a') {
					i.Rs1 = 31 - r
				}
				if p.has('b') {
					i.Rs2 = r
				}
				if p.op == api.TSO {
					i.Pred, i.Succ = 3, 3
				}
				if got, e := decode.Decode(p.word(i)); got != i || e != api.OK {
					t.Fatalf("%08x: %+v %v, not %+v", p.word(i), got, e, i)
				}
			}
		}
	}
}

// shifts holds shifts by numbers of an opcode against all that may stand ahead of a number of some bits: what that tells of the shift to the left, and of that to the right.
func shifts(t *testing.T, code uint32, bits int, of func(upper uint32) (left, right int)) {
	t.Helper()
	for upper := range uint32(1) << (12 - bits) {
		left, right := of(upper)
		for by := range uint32(1) << bits {
			for f3, op := range map[uint32]int{1: left, 5: right} {
				w := upper<<(20+bits) | by<<20 | 7<<15 | f3<<12 | 9<<7 | code
				is(t, w, op)
				want := api.Inst{Op: op, Rd: 9, Rs1: 7, Imm: int64(by)}
				if i, _ := decode.Decode(w); op != 0 && i != want {
					t.Fatalf("%08x: %+v, not %+v", w, i, want)
				}
			}
		}
	}
}

// P6.1: shifts by numbers: of 64 bits each of bits 31 to 26, of 32 bits each f7, with all numbers.
func TestShifts(t *testing.T) {
	shifts(t, 0x13, 6, func(upper uint32) (int, int) {
		switch upper {
		case 0:
			return api.SLLI, api.SRLI
		case 0x10:
			return 0, api.SRAI
		}
		return 0, 0
	})
	shifts(t, 0x1b, 5, func(f7 uint32) (int, int) {
		switch f7 {
		case 0:
			return api.SLLIW, api.SRLIW
		case 0x20:
			return 0, api.SRAIW
		}
		return 0, 0
	})
}

// P6.1: every f3 of opcodes whose f3 tells the operation, those that no row names too, whatever stands in the other bits.
func TestThirds(t *testing.T) {
	for code, l := range map[uint32][8]int{
		0x67: {api.JALR},
		0x63: {0: api.BEQ, 1: api.BNE, 4: api.BLT, 5: api.BGE, 6: api.BLTU, 7: api.BGEU},
		0x03: {api.LB, api.LH, api.LW, api.LD, api.LBU, api.LHU, api.LWU},
		0x23: {api.SB, api.SH, api.SW, api.SD},
		0x0f: {api.FENCE},
	} {
		for f3, op := range l {
			for _, other := range []uint32{0, 0x0010_0000, 0x7fff_8f80, 0xffff_8f80, 0xaaaa_8a80, 0x5555_0500} {
				is(t, code|uint32(f3)<<12|other, op)
			}
		}
	}
}

// P6.1: every f3 and f7 of opcodes in which both tell the operation.
func TestSevenths(t *testing.T) {
	for code, l := range map[uint32][2][8]int{
		0x33: {{api.ADD, api.SLL, api.SLT, api.SLTU, api.XOR, api.SRL, api.OR, api.AND}, {0: api.SUB, 5: api.SRA}},
		0x3b: {{0: api.ADDW, 1: api.SLLW, 5: api.SRLW}, {0: api.SUBW, 5: api.SRAW}},
	} {
		for f3 := range 8 {
			for f7 := range uint32(128) {
				op := 0
				switch f7 {
				case 0:
					op = l[0][f3]
				case 0x20:
					op = l[1][f3]
				}
				for _, other := range []uint32{0, 0x01ff_8f80, 0x0155_0500} {
					is(t, code|uint32(f3)<<12|f7<<25|other, op)
				}
			}
		}
	}
}

// P6.1 and P6.3: every fence with every set, and each of its ignored bits turned.
func TestFences(t *testing.T) {
	for upper := range uint32(1 << 12) {
		w := upper<<20 | 0x0f
		want := api.Inst{Op: api.FENCE, Pred: int(upper >> 4 & 15), Succ: int(upper & 15)}
		ignored := uint32(0xf00f_8f80)
		if want.Pred == 3 && want.Succ == 3 {
			ignored = 0x700f_8f80 // bit 31 may tell TSO
			if upper>>8 != 0 {
				ignored = 0x000f_8f80
			}
		}
		if upper == 0x833 {
			want.Op = api.TSO
		}
		if i, e := decode.Decode(w); i != want || e != api.OK {
			t.Fatalf("%08x: %+v %v, not %+v", w, i, e, want)
		}
		for k := range 32 {
			if i, e := decode.Decode(w ^ 1<<k); ignored>>k&1 == 1 && (i != want || e != api.OK) {
				t.Fatalf("%08x, bit %d: %+v %v, not %+v", w, k, i, e, want)
			}
		}
		if i, e := decode.Decode(w | ignored&0x000f_8f80); i != want || e != api.OK {
			t.Fatalf("%08x, all: %+v %v, not %+v", w, i, e, want)
		}
		for f3 := uint32(1); f3 < 8; f3++ {
			illegal(t, w|f3<<12)
		}
	}
}

// P6.1: TSO is told by all of bits 31 to 20, and by f3; by its registers' bits it isn't.
func TestTso(t *testing.T) {
	want := api.Inst{Op: api.TSO, Pred: 3, Succ: 3}
	for r := range uint32(32) {
		for _, w := range []uint32{0x8330_000f | r<<7, 0x8330_000f | r<<15, 0x8330_000f | r<<7 | (31-r)<<15} {
			if i, e := decode.Decode(w); i != want || e != api.OK {
				t.Errorf("%08x: %+v %v", w, i, e)
			}
		}
	}
	for k := 20; k < 32; k++ {
		w := uint32(0x8330_000f) ^ 1<<k
		want := api.Inst{Op: api.FENCE, Pred: int(w >> 24 & 15), Succ: int(w >> 20 & 15)}
		if i, e := decode.Decode(w); i != want || e != api.OK {
			t.Errorf("%08x: %+v %v, not %+v", w, i, e, want)
		}
	}
	for f3 := uint32(1); f3 < 8; f3++ {
		illegal(t, 0x8330_000f|f3<<12)
	}
}

// P6.1: each of bits 31 to 27 of opcode 2f, with each f3, both annotations and all of rs2's bits.
func TestAtomics(t *testing.T) {
	words := map[uint32]int{0x02: api.LRW, 0x03: api.SCW, 0x01: api.SWAPW, 0x00: api.AMOADDW, 0x04: api.AMOXORW, 0x0c: api.AMOANDW, 0x08: api.AMOORW, 0x10: api.MINW, 0x14: api.MAXW, 0x18: api.MINUW, 0x1c: api.MAXUW}
	doubles := map[uint32]int{0x02: api.LRD, 0x03: api.SCD, 0x01: api.SWAPD, 0x00: api.AMOADDD, 0x04: api.AMOXORD, 0x0c: api.AMOANDD, 0x08: api.AMOORD, 0x10: api.MIND, 0x14: api.MAXD, 0x18: api.MINUD, 0x1c: api.MAXUD}
	ops := [8]map[uint32]int{2: words, 3: doubles}
	for which := range uint32(32) {
		for f3 := range uint32(8) {
			for both := range uint32(4) {
				for rs2 := range uint32(32) {
					w := which<<27 | both<<25 | rs2<<20 | 3<<15 | f3<<12 | 30<<7 | 0x2f
					want := api.Inst{Op: ops[f3][which], Rd: 30, Rs1: 3, Rs2: int(rs2), Aq: both&2 != 0, Rl: both&1 != 0}
					if want.Op == 0 || which == 0x02 && rs2 != 0 {
						illegal(t, w)
						continue
					}
					if i, e := decode.Decode(w); i != want || e != api.OK {
						t.Fatalf("%08x: %+v %v, not %+v", w, i, e, want)
					}
				}
			}
		}
	}
}

// P6.1: ECALL and EBREAK are two words; each other bit turned makes them none.
func TestHalts(t *testing.T) {
	call, stop := uint32(0x0000_0073), uint32(0x0010_0073)
	is(t, call, api.ECALL)
	is(t, stop, api.EBREAK)
	for k := 7; k < 32; k++ {
		if k != 20 {
			illegal(t, call^1<<k)
			illegal(t, stop^1<<k)
		}
	}
	for upper := range uint32(1 << 12) {
		if upper > 1 {
			illegal(t, upper<<20|0x73)
		}
		illegal(t, upper<<20|0x10f3)
		illegal(t, upper<<20|0xf_8073)
	}
}

// P6.1: words of opcodes that the table hasn't.
func TestOtherOpcodes(t *testing.T) {
	named := []uint32{0x37, 0x17, 0x6f, 0x67, 0x63, 0x03, 0x23, 0x13, 0x1b, 0x33, 0x3b, 0x0f, 0x73, 0x2f}
	for code := range uint32(128) {
		if slices.Contains(named, code) {
			continue
		}
		for _, p := range plans {
			for _, w := range p.words() {
				illegal(t, w&^0x7f|code)
			}
		}
		illegal(t, code)
		illegal(t, code|0xffff_ff80)
	}
}

// P6.1 and P6.3: every operation's words, and these with each bit turned, and with each two.
func TestTurnedBits(t *testing.T) {
	for _, p := range plans {
		for _, w := range p.words() {
			check(t, w)
			for k := range 32 {
				check(t, w^1<<k)
				for j := range k {
					check(t, w^1<<k^1<<j)
				}
			}
		}
	}
}

// P6.1 and P6.3: each opcode with each f3, each f7, and all of rs2's bits.
func TestEverywhere(t *testing.T) {
	for code := range uint32(128) {
		for f3 := range uint32(8) {
			for upper := range uint32(1 << 12) {
				check(t, upper<<20|25<<15|f3<<12|18<<7|code)
			}
		}
	}
}

// P6.1 and P6.3: many others.
func TestManyWords(t *testing.T) {
	x := uint64(6)
	for range 1_000_000 {
		x = x*6364136223846793005 + 1442695040888963407
		w := uint32(x >> 32)
		check(t, w)
		p := plans[int(x>>7%uint64(len(plans)))]
		check(t, w&^p.must|p.are)
	}
}

// P6.1 and rule 2: beside an error there is nothing; the same word is the same again.
func TestAgain(t *testing.T) {
	for _, p := range plans {
		for _, w := range p.words() {
			i, e := decode.Decode(w)
			decode.Decode(^w)
			if again, f := decode.Decode(w); again != i || f != e {
				t.Fatalf("%08x: %+v %v, and %+v %v", w, i, e, again, f)
			}
		}
	}
}

// P6.2 and P6.3: every operation's opcode.
func TestOpcode(t *testing.T) {
	for _, c := range []struct {
		code        uint32
		first, last int
	}{
		{0x37, api.LUI, api.LUI}, {0x17, api.AUIPC, api.AUIPC}, {0x6f, api.JAL, api.JAL}, {0x67, api.JALR, api.JALR},
		{0x63, api.BEQ, api.BGEU}, {0x03, api.LB, api.LWU}, {0x23, api.SB, api.SD},
		{0x13, api.ADDI, api.SRAI}, {0x1b, api.ADDIW, api.SRAIW}, {0x33, api.ADD, api.AND}, {0x3b, api.ADDW, api.SRAW},
		{0x0f, api.FENCE, api.TSO}, {0x73, api.ECALL, api.EBREAK}, {0x2f, api.LRW, api.MAXUD},
	} {
		for op := c.first; op <= c.last; op++ {
			if got := decode.Opcode(op); got != c.code {
				t.Errorf("%d: %x, not %x", op, got, c.code)
			}
		}
	}
	for _, p := range plans {
		if got := decode.Opcode(p.op); got != p.are&0x7f {
			t.Errorf("%d: %x, not %x", p.op, got, p.are&0x7f)
		}
	}
}

// notOps are numbers of no operation.
func notOps() []int {
	l := []int{math.MinInt, math.MinInt + 1, math.MinInt32, math.MaxInt32, math.MaxInt - 1, math.MaxInt}
	for k := range 300 {
		l = append(l, -k, api.MaxOp+1+k)
	}
	for k := 8; k < 63; k++ {
		for _, op := range []int{0, api.LUI, api.JALR, api.SD, api.ADD, api.MAXUD} {
			l = append(l, 1<<k|op, -1<<k|op) // whose low bits are those of an operation
		}
	}
	return l
}

// P6.2: where there is no operation.
func TestNoOperation(t *testing.T) {
	for _, op := range notOps() {
		if got := decode.Opcode(op); got != 0 {
			t.Errorf("%d: opcode %x", op, got)
		}
		i := api.Inst{Op: op, Rd: 1, Rs1: 2, Rs2: 3, Imm: 4, Aq: true, Rl: true, Pred: 5, Succ: 6}
		want := api.Inst{Op: op, Imm: 4, Aq: true, Rl: true, Pred: 5, Succ: 6}
		if got := decode.Clean(i); got != want {
			t.Errorf("%+v: %+v, not %+v", i, got, want)
		}
	}
}

// registers are numbers of registers, and such as are none.
func registers() []int {
	return []int{0, 1, 2, 3, 15, 16, 30, 31, 32, 33, 63, 1<<8 + 3, 1<<32 + 5, math.MaxInt, -1, -2, -31, -1 << 32, math.MinInt}
}

// P6.2: every operation with all registers, such as are none too: those that it hasn't become 0, all else stays as it is.
func TestClean(t *testing.T) {
	for _, p := range plans {
		for _, d := range registers() {
			for _, a := range registers() {
				for _, b := range registers() {
					i := api.Inst{Op: p.op, Rd: d, Rs1: a, Rs2: b, Imm: int64(d) ^ 77, Aq: a&1 == 0, Rl: b&1 == 0, Pred: d - 1, Succ: b + 9}
					want := i
					if !p.has('d') {
						want.Rd = 0
					}
					if !p.has('a') {
						want.Rs1 = 0
					}
					if !p.has('b') {
						want.Rs2 = 0
					}
					if got := decode.Clean(i); got != want {
						t.Fatalf("%+v: %+v, not %+v", i, got, want)
					}
				}
			}
		}
	}
}

// P6.2: as it is written down.
func TestCleanWrittenDown(t *testing.T) {
	for _, c := range []struct {
		op           int
		rd, rs1, rs2 int
	}{
		{api.LUI, 1, 0, 0}, {api.AUIPC, 1, 0, 0}, {api.JAL, 1, 0, 0}, {api.JALR, 1, 2, 0}, {api.BGE, 0, 2, 3}, {api.LWU, 1, 2, 0}, {api.SH, 0, 2, 3},
		{api.SLTIU, 1, 2, 0}, {api.SRAIW, 1, 2, 0}, {api.SUB, 1, 2, 3}, {api.SLLW, 1, 2, 3}, {api.FENCE, 0, 0, 0}, {api.TSO, 0, 0, 0}, {api.ECALL, 0, 0, 0}, {api.EBREAK, 0, 0, 0},
		{api.LRD, 1, 2, 0}, {api.SCW, 1, 2, 3}, {api.SWAPW, 1, 2, 3}, {api.MAXUD, 1, 2, 3},
	} {
		i := api.Inst{Op: c.op, Rd: 1, Rs1: 2, Rs2: 3, Imm: -9}
		if got, want := decode.Clean(i), (api.Inst{Op: c.op, Rd: c.rd, Rs1: c.rs1, Rs2: c.rs2, Imm: -9}); got != want {
			t.Errorf("%+v: %+v, not %+v", i, got, want)
		}
	}
}

// P6.3: an instruction's word has its operation's opcode, and no word of another opcode is of that operation.
func TestOpcodeOfWord(t *testing.T) {
	for _, p := range plans {
		for _, w := range p.words() {
			for code := range uint32(128) {
				other := w&^0x7f | code
				if i, e := decode.Decode(other); e == api.OK && decode.Opcode(i.Op) != code {
					t.Fatalf("%08x: %+v of opcode %x", other, i, decode.Opcode(i.Op))
				}
			}
		}
	}
}
