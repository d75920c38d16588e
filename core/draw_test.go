package core_test

import (
	"undertow/api"
	"undertow/encode"
)

// A draw is a row of numbers that is always the same one.
type draw uint64

func (d *draw) word() uint64 {
	*d += 0x9e37_79b9_7f4a_7c15
	x := uint64(*d)
	x = (x ^ x>>30) * 0xbf58_476d_1ce4_e5b9
	x = (x ^ x>>27) * 0x94d0_49bb_1331_11eb
	return x ^ x>>31
}

func (d *draw) of(n int) int { return int(d.word() % uint64(n)) }

// drawn is one of some things.
func drawn[T any](d *draw, l ...T) T { return l[d.of(len(l))] }

// Drawn programs have their code below data, which goes up to some bytes behind it.
const (
	dataAt = 64
	dataTo = 96
)

// hart is one that begins at code, most often at its beginning; x1 to x3 are numbers, x4 to x7 places.
func (d *draw) hart() api.Hart {
	h := api.Hart{X: [32]uint64{0: d.word(), 1: uint64(d.of(4)), 2: uint64(d.of(32)), 3: d.word(), 4: 64, 5: 68, 6: 72, 7: 80, 10: 64, 31: d.word()}}
	if d.of(8) == 0 {
		h.PC = uint64(4 * d.of(8))
	}
	if d.of(100) == 0 {
		h.PC, h.Cause = d.word(), d.of(2)
	}
	return h
}

// image is a drawn program, and data.
func (d *draw) image() []byte {
	img := make([]byte, dataTo+d.of(5))
	for at := dataAt; at < len(img); at++ {
		img[at] = byte(d.word())
	}
	n := 3 + d.of(4) + d.of(11)
	var i api.Inst
	for k := range n {
		i = d.inst(n-k, i)
		if k == n-1 && d.of(10) > 0 {
			i = api.Inst{Op: api.EBREAK}
		}
		w, e := encode.Encode(i)
		if e != api.OK || d.of(200) == 0 {
			w = uint32(d.word())
		}
		for j := range 4 {
			img[4*k+j] = byte(w >> (8 * j))
		}
	}
	return img
}

// inst is a drawn instruction, behind another one; so many are left to go over, it too.
func (d *draw) inst(left int, ahead api.Inst) api.Inst {
	number, written := func() int { return 1 + d.of(3) }, func() int { return d.of(4) }
	if c, ok := map[int]int{api.LRW: api.SCW, api.LRD: api.SCD}[ahead.Op]; ok && d.of(3) > 0 {
		return d.noted(api.Inst{Op: c, Rd: written(), Rs1: ahead.Rs1, Rs2: d.of(4)})
	}
	switch k := d.of(100); {
	case k < 14:
		return api.Inst{Op: drawn(d, api.ADDI, api.XORI, api.SLTIU, api.ADDIW), Rd: written(), Rs1: number(), Imm: int64(d.of(9) - 4)}
	case k < 22:
		return api.Inst{Op: drawn(d, api.ADD, api.SUB, api.XOR, api.SLTU, api.SRA), Rd: written(), Rs1: number(), Rs2: number()}
	case k < 24:
		return api.Inst{Op: drawn(d, api.LUI, api.AUIPC), Rd: written(), Imm: 4096 * int64(d.of(3))}
	case k < 32: // where what x8, x9 and x10 are hangs on numbers, addresses come late
		return api.Inst{Op: api.ANDI, Rd: 8 + d.of(2), Rs1: number(), Imm: drawn[int64](d, 8, 8, 16, 24, 4)}
	case k < 35:
		return api.Inst{Op: api.ADDI, Rd: 10, Rs1: 8, Imm: dataAt}
	case k < 53:
		return d.moved(api.Inst{Op: drawn(d, api.LB, api.LH, api.LW, api.LW, api.LD, api.LBU, api.LHU, api.LWU), Rd: written()})
	case k < 71:
		return d.moved(api.Inst{Op: drawn(d, api.SB, api.SH, api.SW, api.SW, api.SD), Rs2: d.of(4)})
	case k < 78:
		return drawn(d, api.Inst{Op: api.TSO, Pred: 3, Succ: 3}, api.Inst{Op: api.FENCE, Pred: 1 + d.of(3), Succ: 1 + d.of(3)}, api.Inst{Op: api.FENCE, Pred: d.of(16), Succ: d.of(16)})
	case k < 82:
		return d.noted(api.Inst{Op: drawn(d, api.LRW, api.LRW, api.LRD), Rd: written(), Rs1: drawn(d, 4, 4, 6, 10)})
	case k < 87:
		return d.noted(api.Inst{Op: drawn(d, api.SCW, api.SCW, api.SCD), Rd: written(), Rs1: drawn(d, 4, 4, 6, 10), Rs2: d.of(4)})
	case k < 92:
		return d.noted(api.Inst{Op: drawn(d, api.SWAPW, api.AMOADDW, api.AMOADDD, api.MINW, api.MAXUD), Rd: written(), Rs1: drawn(d, 4, 6, 7, 10), Rs2: d.of(4)})
	case k < 97:
		return api.Inst{Op: drawn(d, api.BEQ, api.BNE, api.BLT, api.BGEU), Rs1: d.of(4), Rs2: number(), Imm: 4 * drawn(d, int64(1+d.of(left)), int64(1+d.of(left)), -int64(1+d.of(4)))}
	case k < 98:
		return api.Inst{Op: api.JAL, Rd: written(), Imm: 4 * int64(1+d.of(left))}
	case k < 99:
		return api.Inst{Op: api.JALR, Rd: written(), Imm: int64(d.of(64))}
	}
	return drawn(d, api.Inst{Op: api.ECALL}, api.Inst{Op: api.LW, Rd: written(), Rs1: number()}, api.Inst{Op: api.SD, Rs1: number(), Rs2: number()}, api.Inst{Op: api.AMOORW, Rs1: number(), Rs2: number()})
}

// moved gives a load or store a place, most often one that may be.
func (d *draw) moved(i api.Inst) api.Inst {
	n := map[int]int{api.LB: 1, api.LBU: 1, api.SB: 1, api.LH: 2, api.LHU: 2, api.SH: 2, api.LD: 8, api.SD: 8}[i.Op]
	if n == 0 {
		n = 4
	}
	i.Rs1 = drawn(d, 0, 8, 9)
	i.Imm = int64(dataAt + n*d.of(8/n))
	return i
}

// noted gives an atomic one its annotations.
func (d *draw) noted(i api.Inst) api.Inst {
	i.Aq, i.Rl = d.of(5) == 0, d.of(5) == 0
	return i
}

// others is a store of another hart than that of a number.
func (d *draw) others(number, step int) (api.Write, int) {
	hart := (number + 1 + d.of(2)) % api.Harts
	n := drawn(d, 1, 2, 4, 8)
	return api.Write{Id: hart + 3*step, Addr: dataAt + n*d.of(16/n), Size: n, Data: d.word()}, hart
}

// A style is how often which unit is picked, and how seldom other harts write.
type style struct {
	often  [api.Units]int
	others int
}

// style is a drawn one.
func (d *draw) style() style {
	s := style{others: drawn(d, 3, 6, 20)}
	for unit := range s.often {
		s.often[unit] = drawn(d, 1, 3, 8)
	}
	s.often[fetch] += 2
	s.often[drain] = drawn(d, 1, 1, 8)
	return s
}

// pick is a unit.
func (s style) pick(d *draw) int {
	all := 0
	for _, n := range s.often {
		all += n
	}
	k, unit := d.of(all), 0
	for ; k >= s.often[unit]; unit++ {
		k -= s.often[unit]
	}
	return unit
}
