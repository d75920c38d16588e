package encode_test

import (
	"math"
	"strings"
	"testing"

	"undertow/api"
	"undertow/decode"
	"undertow/encode"
)

// kind is some operations whose instructions are right alike: which registers they have (d is rd, a rs1, b rs2), the least and the greatest immediate and from which one to the next one it goes, whether they may be annotated, and their sets.
type kind struct {
	first, last       int
	registers         string
	least, most, step int64
	annotated         bool
	leastSet, mostSet int
}

// kinds are those of all operations, one behind the other.
var kinds = []kind{
	{first: api.LUI, last: api.AUIPC, registers: "d", least: -1 << 31, most: 1<<31 - 4096, step: 4096},
	{first: api.JAL, last: api.JAL, registers: "d", least: -1 << 20, most: 1<<20 - 2, step: 2},
	{first: api.JALR, last: api.JALR, registers: "da", least: -2048, most: 2047, step: 1},
	{first: api.BEQ, last: api.BGEU, registers: "ab", least: -4096, most: 4094, step: 2},
	{first: api.LB, last: api.LWU, registers: "da", least: -2048, most: 2047, step: 1},
	{first: api.SB, last: api.SD, registers: "ab", least: -2048, most: 2047, step: 1},
	{first: api.ADDI, last: api.ANDI, registers: "da", least: -2048, most: 2047, step: 1},
	{first: api.SLLI, last: api.SRAI, registers: "da", most: 63, step: 1},
	{first: api.ADDIW, last: api.ADDIW, registers: "da", least: -2048, most: 2047, step: 1},
	{first: api.SLLIW, last: api.SRAIW, registers: "da", most: 31, step: 1},
	{first: api.ADD, last: api.SRAW, registers: "dab", step: 1},
	{first: api.FENCE, last: api.FENCE, step: 1, mostSet: 15},
	{first: api.TSO, last: api.TSO, step: 1, leastSet: 3, mostSet: 3},
	{first: api.ECALL, last: api.EBREAK, step: 1},
	{first: api.LRW, last: api.LRD, registers: "da", step: 1, annotated: true},
	{first: api.SCW, last: api.MAXUD, registers: "dab", step: 1, annotated: true},
}

// kindOf is an operation's kind; false, if it is none.
func kindOf(op int) (kind, bool) {
	for _, k := range kinds {
		if k.first <= op && op <= k.last {
			return k, true
		}
	}
	return kind{}, false
}

// mostRegister is the last register that an instruction may have as d, a or b.
func (k kind) mostRegister(letter string) int {
	if strings.Contains(k.registers, letter) {
		return 31
	}
	return 0
}

// right says whether an instruction is, as the table tells it.
func right(i api.Inst) bool {
	k, ok := kindOf(i.Op)
	return ok &&
		0 <= i.Rd && i.Rd <= k.mostRegister("d") &&
		0 <= i.Rs1 && i.Rs1 <= k.mostRegister("a") &&
		0 <= i.Rs2 && i.Rs2 <= k.mostRegister("b") &&
		k.least <= i.Imm && i.Imm <= k.most && i.Imm%k.step == 0 &&
		(k.annotated || !i.Aq && !i.Rl) &&
		k.leastSet <= i.Pred && i.Pred <= k.mostSet &&
		k.leastSet <= i.Succ && i.Succ <= k.mostSet
}

// ignored are the bits of an operation's words by which nothing is told.
func ignored(op int) uint32 {
	switch op {
	case api.FENCE:
		return 0xf00f_8f80
	case api.TSO:
		return 0x000f_8f80
	}
	return 0
}

// check holds one instruction against the table; of its word, that Decode tells it of that, and that no ignored bit is set.
func check(t *testing.T, i api.Inst) {
	t.Helper()
	want := right(i)
	if got := encode.Right(i); got != want {
		t.Fatalf("%+v: right %v", i, got)
	}
	w, e := encode.Encode(i)
	b, f := encode.Program([]api.Inst{i})
	if !want {
		if w != 0 || e != api.ErrArg || len(b) != 0 || f != api.ErrArg {
			t.Fatalf("%+v: %08x %v, %x %v", i, w, e, b, f)
		}
		return
	}
	if got, d := decode.Decode(w); e != api.OK || d != api.OK || got != i || w&ignored(i.Op) != 0 {
		t.Fatalf("%+v: %08x %v, which is %+v %v", i, w, e, got, d)
	}
	if f != api.OK || len(b) != 4 || number(b) != w {
		t.Fatalf("%+v: %08x, %x %v", i, w, b, f)
	}
}

// number is the word of four bytes.
func number(b []byte) uint32 {
	return uint32(b[0]) | uint32(b[1])<<8 | uint32(b[2])<<16 | uint32(b[3])<<24
}

// plain is an operation's instruction all of whose parts are 0, or as near to it as it may be.
func plain(op int) api.Inst {
	k, _ := kindOf(op)
	return api.Inst{Op: op, Pred: k.leastSet, Succ: k.leastSet}
}

// full is an operation's instruction all of whose parts are as great as may be.
func full(op int) api.Inst {
	k, _ := kindOf(op)
	return api.Inst{
		Op: op, Rd: k.mostRegister("d"), Rs1: k.mostRegister("a"), Rs2: k.mostRegister("b"), Imm: k.most,
		Aq: k.annotated, Rl: k.annotated, Pred: k.mostSet, Succ: k.mostSet,
	}
}

// notOps are numbers of no operation.
func notOps() []int {
	l := []int{math.MinInt, math.MinInt + 1, math.MinInt32, math.MaxInt32, math.MaxInt - 1, math.MaxInt}
	for k := range 300 {
		l = append(l, -k, api.MaxOp+1+k)
	}
	for k := 8; k < 63; k++ {
		for _, op := range []int{0, api.LUI, api.JALR, api.SD, api.ADD, api.FENCE, api.MAXUD} {
			l = append(l, 1<<k|op, -1<<k|op) // whose low bits are those of an operation
		}
	}
	return l
}

// numbers are such as may stand for a register or a set, and such as may not, far ones whose low bits might among them.
func numbers() []int {
	l := []int{math.MinInt, math.MinInt + 1, math.MinInt + 3, math.MaxInt - 1, math.MaxInt}
	for k := range 140 {
		l = append(l, k, -k)
	}
	for k := 8; k < 63; k++ {
		l = append(l, 1<<k, 1<<k+3, 1<<k+31, -1<<k, -1<<k+3, -1<<k+31)
	}
	return l
}

// immediates are such as are a kind's, and such as aren't: about its ends, about 0, of one bit, and those whose low bits alone are one's.
func (k kind) immediates() []int64 {
	l := []int64{math.MinInt64, math.MaxInt64}
	for d := range int64(9) {
		for _, at := range []int64{0, k.least, k.most, 2 * k.least, 2 * k.most, math.MinInt64, math.MaxInt64} {
			l = append(l, at+d, at-d, at+d*k.step, at-d*k.step)
		}
	}
	for s := range 64 {
		for _, at := range []int64{0, 1, k.step, k.least, k.most} {
			l = append(l, at+1<<s, at-1<<s)
		}
	}
	return l
}

// The kinds are all operations, each in one of them: what the other tests lean on.
func TestKinds(t *testing.T) {
	next := api.LUI
	for _, k := range kinds {
		if k.first != next || k.last < k.first {
			t.Errorf("%d to %d behind %d", k.first, k.last, next-1)
		}
		next = k.last + 1
	}
	if next != api.MaxOp+1 {
		t.Errorf("the last one is %d", next-1)
	}
	for op := 1; op <= api.MaxOp; op++ {
		if !right(plain(op)) || !right(full(op)) {
			t.Errorf("%+v, %+v", plain(op), full(op))
		}
	}
}
