package alu_test

import (
	"math"
	"math/big"

	"undertow/api"
)

// Kinds of operations, as the tests tell them apart.
const (
	other = iota
	immediate
	pair
	branch
	load
	store
	reserve
	conditional
	atomic
)

// twin is an operation, its kind, its size where it has memory, and by which name the model knows what it does.
type twin struct {
	op, kind, size int
	does           string
}

// twins are all operations.
var twins = []twin{
	{api.LUI, other, 0, "lui"}, {api.AUIPC, other, 0, "auipc"}, {api.JAL, other, 0, "jal"}, {api.JALR, other, 0, "jalr"},
	{api.BEQ, branch, 0, "eq"}, {api.BNE, branch, 0, "ne"}, {api.BLT, branch, 0, "lt"}, {api.BGE, branch, 0, "ge"}, {api.BLTU, branch, 0, "ltu"}, {api.BGEU, branch, 0, "geu"},
	{api.LB, load, 1, "signed"}, {api.LH, load, 2, "signed"}, {api.LW, load, 4, "signed"}, {api.LD, load, 8, "signed"}, {api.LBU, load, 1, "plain"}, {api.LHU, load, 2, "plain"}, {api.LWU, load, 4, "plain"},
	{api.SB, store, 1, ""}, {api.SH, store, 2, ""}, {api.SW, store, 4, ""}, {api.SD, store, 8, ""},
	{api.ADDI, immediate, 0, "add"}, {api.SLTI, immediate, 0, "slt"}, {api.SLTIU, immediate, 0, "sltu"}, {api.XORI, immediate, 0, "xor"}, {api.ORI, immediate, 0, "or"}, {api.ANDI, immediate, 0, "and"},
	{api.SLLI, immediate, 0, "sll"}, {api.SRLI, immediate, 0, "srl"}, {api.SRAI, immediate, 0, "sra"},
	{api.ADDIW, immediate, 0, "addw"}, {api.SLLIW, immediate, 0, "sllw"}, {api.SRLIW, immediate, 0, "srlw"}, {api.SRAIW, immediate, 0, "sraw"},
	{api.ADD, pair, 0, "add"}, {api.SUB, pair, 0, "sub"}, {api.SLL, pair, 0, "sll"}, {api.SLT, pair, 0, "slt"}, {api.SLTU, pair, 0, "sltu"}, {api.XOR, pair, 0, "xor"}, {api.SRL, pair, 0, "srl"}, {api.SRA, pair, 0, "sra"}, {api.OR, pair, 0, "or"}, {api.AND, pair, 0, "and"},
	{api.ADDW, pair, 0, "addw"}, {api.SUBW, pair, 0, "subw"}, {api.SLLW, pair, 0, "sllw"}, {api.SRLW, pair, 0, "srlw"}, {api.SRAW, pair, 0, "sraw"},
	{api.FENCE, other, 0, ""}, {api.TSO, other, 0, ""}, {api.ECALL, other, 0, ""}, {api.EBREAK, other, 0, ""},
	{api.LRW, reserve, 4, "signed"}, {api.LRD, reserve, 8, "signed"}, {api.SCW, conditional, 4, ""}, {api.SCD, conditional, 8, ""},
	{api.SWAPW, atomic, 4, "swap"}, {api.AMOADDW, atomic, 4, "add"}, {api.AMOXORW, atomic, 4, "xor"}, {api.AMOANDW, atomic, 4, "and"}, {api.AMOORW, atomic, 4, "or"}, {api.MINW, atomic, 4, "min"}, {api.MAXW, atomic, 4, "max"}, {api.MINUW, atomic, 4, "minu"}, {api.MAXUW, atomic, 4, "maxu"},
	{api.SWAPD, atomic, 8, "swap"}, {api.AMOADDD, atomic, 8, "add"}, {api.AMOXORD, atomic, 8, "xor"}, {api.AMOANDD, atomic, 8, "and"}, {api.AMOORD, atomic, 8, "or"}, {api.MIND, atomic, 8, "min"}, {api.MAXD, atomic, 8, "max"}, {api.MINUD, atomic, 8, "minu"}, {api.MAXUD, atomic, 8, "maxu"},
}

// notOps are numbers of no operation.
func notOps() []int {
	l := []int{0, -1, -2, api.MaxOp + 1, api.MaxOp + 2, 100, 127, 128, 255, 256, -api.MaxOp, math.MinInt, math.MaxInt, math.MinInt + api.ADD, 1 << 31, -1 << 31}
	for op := 1; op <= api.MaxOp; op++ {
		l = append(l, -op, op+api.MaxOp, op+256, op+1<<32, op-1<<32)
	}
	return l
}

// power is 2 to some number.
func power(n uint) *big.Int { return new(big.Int).Lsh(big.NewInt(1), n) }

// plain is the low bits of a word as a number of 0 or above.
func plain(x uint64, bits uint) *big.Int {
	n := new(big.Int).SetUint64(x)
	return n.Mod(n, power(bits))
}

// signed is the low bits of a word as a number of both signs.
func signed(x uint64, bits uint) *big.Int {
	n := plain(x, bits)
	if n.Cmp(power(bits-1)) >= 0 {
		n.Sub(n, power(bits))
	}
	return n
}

// round is a number's word, which goes round.
func round(n *big.Int) uint64 {
	return new(big.Int).Mod(n, power(64)).Uint64()
}

// carried is the word of a number's low bits, with their sign.
func carried(n *big.Int, bits uint) uint64 {
	return round(signed(round(n), bits))
}

// one is 1 of what is so.
func one(so bool) uint64 {
	if so {
		return 1
	}
	return 0
}

// digits goes through two words bit by bit.
func digits(a, b uint64, f func(x, y bool) bool) uint64 {
	x, y, z := new(big.Int).SetUint64(a), new(big.Int).SetUint64(b), new(big.Int)
	for k := range 64 {
		if f(x.Bit(k) == 1, y.Bit(k) == 1) {
			z.SetBit(z, k, 1)
		}
	}
	return z.Uint64()
}

// shifted is a number shifted to the right: what a power of two makes of it, rounded down.
func shifted(n *big.Int, by uint64) *big.Int {
	return new(big.Int).Div(n, power(uint(by)))
}

// modelPair is what the model makes of two words.
func modelPair(does string, a, b uint64) uint64 {
	x, y := signed(a, 64), signed(b, 64)
	switch does {
	case "add":
		return round(x.Add(x, y))
	case "sub":
		return round(x.Sub(x, y))
	case "slt":
		return one(x.Cmp(y) < 0)
	case "sltu":
		return one(plain(a, 64).Cmp(plain(b, 64)) < 0)
	case "xor":
		return digits(a, b, func(x, y bool) bool { return x != y })
	case "or":
		return digits(a, b, func(x, y bool) bool { return x || y })
	case "and":
		return digits(a, b, func(x, y bool) bool { return x && y })
	case "sll":
		return round(x.Mul(x, power(uint(b%64))))
	case "srl":
		return round(shifted(plain(a, 64), b%64))
	case "sra":
		return round(shifted(x, b%64))
	case "addw":
		return carried(x.Add(x, y), 32)
	case "subw":
		return carried(x.Sub(x, y), 32)
	case "sllw":
		return carried(x.Mul(x, power(uint(b%32))), 32)
	case "srlw":
		return carried(shifted(plain(a, 32), b%32), 32)
	case "sraw":
		return carried(shifted(signed(a, 32), b%32), 32)
	}
	panic(does)
}

// modelResult is what the model says of a register.
func modelResult(k twin, i api.Inst, pc, a, b uint64) uint64 {
	n := big.NewInt(i.Imm)
	switch {
	case k.kind == immediate:
		return modelPair(k.does, a, round(n))
	case k.kind == pair:
		return modelPair(k.does, a, b)
	case k.does == "lui":
		return round(n)
	case k.does == "auipc":
		return round(n.Add(n, plain(pc, 64)))
	case k.does == "jal", k.does == "jalr":
		return round(n.Add(plain(pc, 64), big.NewInt(4)))
	}
	return 0
}

// modelTaken is what the model says of a branch.
func modelTaken(k twin, a, b uint64) bool {
	bySign, asWords := signed(a, 64).Cmp(signed(b, 64)), plain(a, 64).Cmp(plain(b, 64))
	switch k.does {
	case "eq":
		return bySign == 0
	case "ne":
		return bySign != 0
	case "lt":
		return bySign < 0
	case "ge":
		return bySign >= 0
	case "ltu":
		return asWords < 0
	case "geu":
		return asWords >= 0
	}
	return false
}

// modelNext is where the model goes on.
func modelNext(k twin, i api.Inst, pc, a, b uint64) uint64 {
	n := big.NewInt(i.Imm)
	switch {
	case k.does == "jalr":
		n.Add(n, plain(a, 64))
		return round(n.Sub(n, new(big.Int).Mod(n, big.NewInt(2))))
	case k.does == "jal", k.kind == branch && modelTaken(k, a, b):
		return round(n.Add(n, plain(pc, 64)))
	}
	return round(n.Add(plain(pc, 64), big.NewInt(4)))
}

// modelAddress is where the model has an instruction's bytes.
func modelAddress(k twin, i api.Inst, a uint64) uint64 {
	switch k.kind {
	case load, store:
		return round(new(big.Int).Add(plain(a, 64), big.NewInt(i.Imm)))
	case reserve, conditional, atomic:
		return a
	}
	return 0
}

// modelLoaded is what the model has of bytes.
func modelLoaded(k twin, raw uint64) uint64 {
	bits := uint(8 * k.size)
	switch k.kind {
	case load, reserve:
		if k.does == "plain" {
			return round(plain(raw, bits))
		}
		return round(signed(raw, bits))
	case atomic:
		return round(signed(raw, bits))
	}
	return 0
}

// modelStored is what the model makes of bytes.
func modelStored(k twin, old, b uint64) uint64 {
	bits := uint(8 * k.size)
	switch k.kind {
	case store, conditional:
		return round(plain(b, bits))
	case atomic:
		return round(plain(modelChanged(k.does, old, b, bits), bits))
	}
	return 0
}

// modelChanged is what an atomic operation makes of two numbers of so many bits.
func modelChanged(does string, old, b uint64, bits uint) uint64 {
	less, asWords := signed(old, bits).Cmp(signed(b, bits)) < 0, plain(old, bits).Cmp(plain(b, bits)) < 0
	switch does {
	case "swap":
		return b
	case "min":
		return either(less, old, b)
	case "max":
		return either(less, b, old)
	case "minu":
		return either(asWords, old, b)
	case "maxu":
		return either(asWords, b, old)
	}
	return modelPair(does, old, b)
}

// either is one of two words.
func either(first bool, a, b uint64) uint64 {
	if first {
		return a
	}
	return b
}

// modelWhere goes through an operation's bytes; the size of the memory may be any.
func modelWhere(k twin, addr uint64, size int) api.Errno {
	if k.size == 0 {
		return api.OK
	}
	first, n := plain(addr, 64), big.NewInt(int64(k.size))
	if new(big.Int).Mod(first, n).Sign() != 0 {
		return api.ErrAlign
	}
	for byteOf := range k.size {
		if new(big.Int).Add(first, big.NewInt(int64(byteOf))).Cmp(big.NewInt(int64(size))) >= 0 {
			return api.ErrRange
		}
	}
	return api.OK
}

// draw is a source of numbers that are as good as any, and the same each time.
type draw uint64

// word is a word, often one of few bits or near an end.
func (d *draw) word() uint64 {
	x := d.plain()
	switch d.of(5) {
	case 0:
		return x >> d.of(64)
	case 1:
		return uint64(int64(x) >> d.of(64))
	case 2:
		return 1<<d.of(64) + uint64(d.of(5)) - 2
	case 3:
		return -(uint64(1) << d.of(64)) + uint64(d.of(5)) - 2
	}
	return x
}

// plain is any word.
func (d *draw) plain() uint64 {
	return uint64(d.of(1<<31))<<33 ^ uint64(d.of(1<<31))<<11 ^ uint64(d.of(1<<31))
}

// of is one of n numbers, from 0 on.
func (d *draw) of(n int) int {
	*d = *d*6364136223846793005 + 1442695040888963407
	return int(uint64(*d) >> 33 % uint64(n))
}

// words are those at the ends of 8, 16, 32 and 64 bits, and some that tell bits apart.
func words() []uint64 {
	l := []uint64{
		0, 1, 2, 3, 4, 5, 31, 32, 33, 63, 64, 65, 95, 96, 127, 128,
		0x0123_4567_89ab_cdef, 0xfedc_ba98_7654_3210, 0x8000_0001_8000_0001, 0x7fff_ffff_8000_0000, 0xffff_ffff_0000_0001, 0x1_0000_001f, 0x5555_5555_aaaa_aaaa, 0xaaaa_aaaa_5555_5555, 0x1_7fff_ffff, 0x1_8000_0000,
	}
	for _, bits := range []int{8, 12, 16, 32, 63, 64} {
		end := uint64(1) << (bits - 1)
		l = append(l, end-2, end-1, end, end+1, -end-1, -end, -end+1, 2*end-1, 2*end, 2*end+1)
	}
	return l
}
