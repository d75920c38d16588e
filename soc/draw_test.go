package soc_test

import (
	"math"
	"slices"

	"undertow/api"
	"undertow/encode"
)

// A draw is a row of numbers that is always the same one.
type draw uint64

func (d *draw) word() uint64 {
	*d += 0x9e37_79b9_7f4a_7c15
	x := uint64(*d)
	x = (x ^ x>>30) * 0xbf58_476d_1ce4_e5b9
	x = (x ^ x>>27) * 0x94d0_49bb_1331_11eb
	return x ^ x>>31
}

func (d *draw) of(n int) int { return int(d.word() % uint64(n)) }

// drawn is one of some things.
func drawn[T any](d *draw, l ...T) T { return l[d.of(len(l))] }

// Drawn programs: each hart has room for code, its last word being none; behind all code stand 16 bytes for all harts, and 16 for each.
const (
	codeRoom  = 64
	sharedAt  = api.Harts * codeRoom
	ownAt     = sharedAt + ownRoom
	ownRoom   = 16
	drawnSize = ownAt + api.Harts*ownRoom
)

// A plan is what a drawn program is made of: where each hart has its data, and whether it may go astray.
type plan struct {
	data   [api.Harts]int
	astray bool
}

// together is a plan of harts that share their data, apart one of harts that share nothing.
var (
	together = plan{[api.Harts]int{sharedAt, sharedAt, sharedAt}, true}
	apart    = plan{[api.Harts]int{ownAt, ownAt + ownRoom, ownAt + 2*ownRoom}, false}
)

// harts are such as begin at their code, most often at its beginning; x1 to x3 are numbers, x4 and x5 places.
func (d *draw) harts(p plan) [api.Harts]api.Hart {
	var h [api.Harts]api.Hart
	for n := range h {
		at := uint64(p.data[n])
		h[n] = api.Hart{PC: uint64(codeRoom * n), X: [32]uint64{0: d.word(), 1: uint64(d.of(4)), 2: uint64(d.of(32)), 3: d.word(), 4: at, 5: at + 8, 31: d.word()}}
		switch d.of(40) {
		case 0, 1, 2:
			h[n].PC += uint64(4 * d.of(8))
		case 3:
			h[n].PC = d.word()
		case 4:
			h[n].Cause = d.of(8)
		}
	}
	return h
}

// image is the drawn programs of all harts, and data.
func (d *draw) image(p plan) []byte {
	img := make([]byte, drawnSize+d.of(5))
	for at := sharedAt; at < len(img); at++ {
		img[at] = byte(d.word())
	}
	for n := range api.Harts {
		many := 2 + d.of(4) + d.of(11) // at most 15
		i := api.Inst{}
		for k := range many {
			i = d.inst(p, n, k, many, i)
			if k == many-1 && d.of(10) > 0 {
				i = api.Inst{Op: api.EBREAK}
			}
			w, e := encode.Encode(i)
			if e != api.OK || p.astray && d.of(200) == 0 {
				w = uint32(d.word())
			}
			for j := range 4 {
				img[codeRoom*n+4*k+j] = byte(w >> (8 * j))
			}
		}
	}
	return img
}

// inst is the k-th of many instructions of a hart, behind another one.
func (d *draw) inst(p plan, hart, k, many int, ahead api.Inst) api.Inst {
	number, written, at := 1+d.of(3), d.of(4), p.data[hart]
	if c, ok := map[int]int{api.LRW: api.SCW, api.LRD: api.SCD}[ahead.Op]; ok && d.of(3) > 0 {
		return api.Inst{Op: c, Rd: written, Rs1: ahead.Rs1, Rs2: d.of(4), Rl: d.of(5) == 0}
	}
	switch x := d.of(100); {
	case x < 18:
		return api.Inst{Op: drawn(d, api.ADDI, api.XORI, api.SLTIU, api.ADDIW), Rd: written, Rs1: number, Imm: int64(d.of(9) - 4)}
	case x < 24:
		return api.Inst{Op: drawn(d, api.ADD, api.SUB, api.SLTU), Rd: written, Rs1: number, Rs2: 1 + d.of(3)}
	case x < 29: // what hangs on it has its address late
		return api.Inst{Op: api.ANDI, Rd: 8, Rs1: number, Imm: 8}
	case x < 49:
		return d.moved(api.Inst{Op: drawn(d, api.LB, api.LH, api.LW, api.LW, api.LD, api.LBU, api.LWU), Rd: written}, at)
	case x < 70:
		return d.moved(api.Inst{Op: drawn(d, api.SB, api.SH, api.SW, api.SW, api.SD), Rs2: d.of(4)}, at)
	case x < 76:
		return drawn(d, api.Inst{Op: api.TSO, Pred: 3, Succ: 3}, api.Inst{Op: api.FENCE, Pred: 1 + d.of(3), Succ: 1 + d.of(3)})
	case x < 82:
		return api.Inst{Op: drawn(d, api.LRW, api.LRW, api.LRD), Rd: written, Rs1: drawn(d, 4, 4, 5), Aq: d.of(5) == 0}
	case x < 84:
		return api.Inst{Op: drawn(d, api.SCW, api.SCD), Rd: written, Rs1: drawn(d, 4, 5), Rs2: d.of(4)}
	case x < 90:
		return api.Inst{Op: drawn(d, api.SWAPW, api.AMOADDW, api.AMOADDD, api.MAXUD), Rd: written, Rs1: drawn(d, 4, 5), Rs2: d.of(4), Aq: d.of(5) == 0, Rl: d.of(5) == 0}
	case x < 96: // back no further than to the hart's first one
		return api.Inst{Op: drawn(d, api.BEQ, api.BNE, api.BLT, api.BGEU), Rs1: d.of(4), Rs2: number, Imm: 4 * int64(drawn(d, 1+d.of(many-k), 1+d.of(many-k), -d.of(min(k, 4)+1)))}
	case x < 98:
		return api.Inst{Op: api.JAL, Rd: written, Imm: 4 * int64(1+d.of(many-k))}
	case x < 99 || !p.astray:
		return api.Inst{Op: api.JALR, Rd: written, Imm: int64(codeRoom*hart + 4*k + d.of(5))}
	}
	return drawn(d, api.Inst{Op: api.ECALL}, api.Inst{Op: api.LW, Rd: written, Rs1: number}, api.Inst{Op: api.SD, Rs1: number, Rs2: 2}, api.Inst{Op: api.AMOORW, Rs1: number, Rs2: 2})
}

// moved gives a load or store a place of a hart's data.
func (d *draw) moved(i api.Inst, at int) api.Inst {
	n := map[int]int{api.LB: 1, api.LBU: 1, api.SB: 1, api.LH: 2, api.SH: 2, api.LD: 8, api.SD: 8}[i.Op]
	if n == 0 {
		n = 4
	}
	i.Rs1 = drawn(d, 0, 8)
	i.Imm = int64(at + n*d.of(8/n))
	return i
}

// pick is one that is right, and that chooses something, if there is anything.
func (d *draw) pick() api.Pick {
	return api.Pick{Core: d.of(api.Harts), Unit: d.of(api.Units), At: drawn(d, 0, 0, 1, 2, 3.5, math.Inf(1), math.Copysign(0, -1), -1)}
}

// any is a pick that now and then is none that is right, or has a number that is seldom.
func (d *draw) any() api.Pick {
	p := d.pick()
	switch d.of(40) {
	case 0:
		p.Core = drawn(d, nones...)
	case 1:
		p.Unit = drawn(d, nones...)
	case 2, 3, 4:
		p.At = drawn(d, numbers...)
	}
	return p
}

// A style is how often which core and which unit is picked.
type style struct {
	cores [api.Harts]int
	units [api.Units]int
}

// style is a drawn one.
func (d *draw) style() style {
	var s style
	for n := range s.cores {
		s.cores[n] = drawn(d, 1, 2, 6)
	}
	for unit := range s.units {
		s.units[unit] = drawn(d, 1, 3, 8)
	}
	s.units[fetch] += 2
	s.units[drain] = drawn(d, 1, 1, 8)
	return s
}

// pick is a pick of a style.
func (s style) pick(d *draw) api.Pick {
	p := d.pick()
	p.Core, p.Unit = d.weighed(s.cores[:]), d.weighed(s.units[:])
	return p
}

// weighed is one of some numbers from 0 on, each of them as often as it is said.
func (d *draw) weighed(often []int) int {
	var l []int
	for k, n := range often {
		l = append(l, slices.Repeat([]int{k}, n)...)
	}
	return drawn(d, l...)
}
