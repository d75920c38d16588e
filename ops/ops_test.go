package ops_test

import (
	"math"
	"slices"
	"strings"
	"testing"

	"undertow/api"
	"undertow/ops"
)

// row is what is told of an operation: its size, whether it loads and stores, whether it reads rs1 and rs2 and writes rd.
type row struct {
	op            int
	name          string
	sort, size    int
	loads, stores bool
	rs1, rs2, rd  bool
}

const y, n = true, false

// rows are all operations, as they are written down.
func rows() []row {
	return []row{
		{api.LUI, "lui", ops.Upper, 0, n, n, n, n, y},
		{api.AUIPC, "auipc", ops.Upper, 0, n, n, n, n, y},
		{api.JAL, "jal", ops.Jump, 0, n, n, n, n, y},
		{api.JALR, "jalr", ops.Jump, 0, n, n, y, n, y},
		{api.BEQ, "beq", ops.Branch, 0, n, n, y, y, n},
		{api.BNE, "bne", ops.Branch, 0, n, n, y, y, n},
		{api.BLT, "blt", ops.Branch, 0, n, n, y, y, n},
		{api.BGE, "bge", ops.Branch, 0, n, n, y, y, n},
		{api.BLTU, "bltu", ops.Branch, 0, n, n, y, y, n},
		{api.BGEU, "bgeu", ops.Branch, 0, n, n, y, y, n},
		{api.LB, "lb", ops.Load, 1, y, n, y, n, y},
		{api.LH, "lh", ops.Load, 2, y, n, y, n, y},
		{api.LW, "lw", ops.Load, 4, y, n, y, n, y},
		{api.LD, "ld", ops.Load, 8, y, n, y, n, y},
		{api.LBU, "lbu", ops.Load, 1, y, n, y, n, y},
		{api.LHU, "lhu", ops.Load, 2, y, n, y, n, y},
		{api.LWU, "lwu", ops.Load, 4, y, n, y, n, y},
		{api.SB, "sb", ops.Store, 1, n, y, y, y, n},
		{api.SH, "sh", ops.Store, 2, n, y, y, y, n},
		{api.SW, "sw", ops.Store, 4, n, y, y, y, n},
		{api.SD, "sd", ops.Store, 8, n, y, y, y, n},
		{api.ADDI, "addi", ops.Number, 0, n, n, y, n, y},
		{api.SLTI, "slti", ops.Number, 0, n, n, y, n, y},
		{api.SLTIU, "sltiu", ops.Number, 0, n, n, y, n, y},
		{api.XORI, "xori", ops.Number, 0, n, n, y, n, y},
		{api.ORI, "ori", ops.Number, 0, n, n, y, n, y},
		{api.ANDI, "andi", ops.Number, 0, n, n, y, n, y},
		{api.SLLI, "slli", ops.Number, 0, n, n, y, n, y},
		{api.SRLI, "srli", ops.Number, 0, n, n, y, n, y},
		{api.SRAI, "srai", ops.Number, 0, n, n, y, n, y},
		{api.ADDIW, "addiw", ops.Number, 0, n, n, y, n, y},
		{api.SLLIW, "slliw", ops.Number, 0, n, n, y, n, y},
		{api.SRLIW, "srliw", ops.Number, 0, n, n, y, n, y},
		{api.SRAIW, "sraiw", ops.Number, 0, n, n, y, n, y},
		{api.ADD, "add", ops.Pair, 0, n, n, y, y, y},
		{api.SUB, "sub", ops.Pair, 0, n, n, y, y, y},
		{api.SLL, "sll", ops.Pair, 0, n, n, y, y, y},
		{api.SLT, "slt", ops.Pair, 0, n, n, y, y, y},
		{api.SLTU, "sltu", ops.Pair, 0, n, n, y, y, y},
		{api.XOR, "xor", ops.Pair, 0, n, n, y, y, y},
		{api.SRL, "srl", ops.Pair, 0, n, n, y, y, y},
		{api.SRA, "sra", ops.Pair, 0, n, n, y, y, y},
		{api.OR, "or", ops.Pair, 0, n, n, y, y, y},
		{api.AND, "and", ops.Pair, 0, n, n, y, y, y},
		{api.ADDW, "addw", ops.Pair, 0, n, n, y, y, y},
		{api.SUBW, "subw", ops.Pair, 0, n, n, y, y, y},
		{api.SLLW, "sllw", ops.Pair, 0, n, n, y, y, y},
		{api.SRLW, "srlw", ops.Pair, 0, n, n, y, y, y},
		{api.SRAW, "sraw", ops.Pair, 0, n, n, y, y, y},
		{api.FENCE, "fence", ops.Fence, 0, n, n, n, n, n},
		{api.TSO, "fence.tso", ops.Fence, 0, n, n, n, n, n},
		{api.ECALL, "ecall", ops.Halt, 0, n, n, n, n, n},
		{api.EBREAK, "ebreak", ops.Halt, 0, n, n, n, n, n},
		{api.LRW, "lr.w", ops.Reserve, 4, y, n, y, n, y},
		{api.LRD, "lr.d", ops.Reserve, 8, y, n, y, n, y},
		{api.SCW, "sc.w", ops.Conditional, 4, n, y, y, y, y},
		{api.SCD, "sc.d", ops.Conditional, 8, n, y, y, y, y},
		{api.SWAPW, "amoswap.w", ops.Atomic, 4, y, y, y, y, y},
		{api.AMOADDW, "amoadd.w", ops.Atomic, 4, y, y, y, y, y},
		{api.AMOXORW, "amoxor.w", ops.Atomic, 4, y, y, y, y, y},
		{api.AMOANDW, "amoand.w", ops.Atomic, 4, y, y, y, y, y},
		{api.AMOORW, "amoor.w", ops.Atomic, 4, y, y, y, y, y},
		{api.MINW, "amomin.w", ops.Atomic, 4, y, y, y, y, y},
		{api.MAXW, "amomax.w", ops.Atomic, 4, y, y, y, y, y},
		{api.MINUW, "amominu.w", ops.Atomic, 4, y, y, y, y, y},
		{api.MAXUW, "amomaxu.w", ops.Atomic, 4, y, y, y, y, y},
		{api.SWAPD, "amoswap.d", ops.Atomic, 8, y, y, y, y, y},
		{api.AMOADDD, "amoadd.d", ops.Atomic, 8, y, y, y, y, y},
		{api.AMOXORD, "amoxor.d", ops.Atomic, 8, y, y, y, y, y},
		{api.AMOANDD, "amoand.d", ops.Atomic, 8, y, y, y, y, y},
		{api.AMOORD, "amoor.d", ops.Atomic, 8, y, y, y, y, y},
		{api.MIND, "amomin.d", ops.Atomic, 8, y, y, y, y, y},
		{api.MAXD, "amomax.d", ops.Atomic, 8, y, y, y, y, y},
		{api.MINUD, "amominu.d", ops.Atomic, 8, y, y, y, y, y},
		{api.MAXUD, "amomaxu.d", ops.Atomic, 8, y, y, y, y, y},
	}
}

// notOps are numbers of no operation.
func notOps() []int {
	l := []int{math.MinInt, math.MinInt + 1, math.MinInt32, math.MaxInt32, math.MaxInt - 1, math.MaxInt}
	for k := range 200 {
		l = append(l, -k, api.MaxOp+1+k)
	}
	for k := 8; k < 63; k++ {
		l = append(l, 1<<k, -1<<k)
		for _, op := range []int{api.LUI, api.JALR, api.LW, api.SD, api.ADD, api.SCD, api.MAXUD} {
			l = append(l, 1<<k|op, -1<<k|op) // whose low bits are those of an operation
		}
	}
	return l
}

// registers are numbers of registers, and such as count as 0.
func registers() []int {
	return []int{0, 1, 2, 15, 16, 30, 31, 32, 33, 63, 64, 1<<8 + 3, 1<<32 + 5, math.MaxInt, -1, -2, -31, -32, -1 << 32, math.MinInt + 7, math.MinInt}
}

// counts is as which register a number counts.
func counts(r int) int {
	for k := range 32 {
		if r == k {
			return k
		}
	}
	return 0
}

// sources and target are those of the row's operation.
func (r row) sources(i api.Inst) []int {
	var l []int
	if k := counts(i.Rs1); r.rs1 && k != 0 {
		l = append(l, k)
	}
	if k := counts(i.Rs2); r.rs2 && k != 0 {
		l = append(l, k)
	}
	return l
}

func (r row) target(i api.Inst) int {
	if r.rd {
		return counts(i.Rd)
	}
	return 0
}

// byName are the operations by their names.
func byName() map[string]int {
	m := map[string]int{}
	for _, r := range rows() {
		m[r.name] = r.op
	}
	return m
}

// The rows are all operations, each in its place: what the other tests lean on.
func TestRows(t *testing.T) {
	all := rows()
	if len(all) != api.MaxOp || len(byName()) != api.MaxOp {
		t.Fatal(len(all), len(byName()))
	}
	for k, r := range all {
		if r.op != k+1 {
			t.Errorf("%s: %d, not %d", r.name, r.op, k+1)
		}
	}
}

// P5.1: the sorts' numbers.
func TestSorts(t *testing.T) {
	for k, sort := range []int{ops.Upper, ops.Jump, ops.Branch, ops.Load, ops.Store, ops.Number, ops.Pair, ops.Fence, ops.Halt, ops.Reserve, ops.Conditional, ops.Atomic} {
		if sort != k+1 {
			t.Errorf("%d, not %d", sort, k+1)
		}
	}
}

// P5.1: every operation.
func TestSort(t *testing.T) {
	for _, r := range rows() {
		if got := ops.Sort(r.op); got != r.sort {
			t.Errorf("%s: sort %d, not %d", r.name, got, r.sort)
		}
		if got := ops.Size(r.op); got != r.size {
			t.Errorf("%s: size %d, not %d", r.name, got, r.size)
		}
		if got := ops.Memory(r.op); got != (r.size != 0) {
			t.Errorf("%s: memory %v", r.name, got)
		}
		if got := ops.Loads(r.op); got != r.loads {
			t.Errorf("%s: loads %v", r.name, got)
		}
		if got := ops.Stores(r.op); got != r.stores {
			t.Errorf("%s: stores %v", r.name, got)
		}
	}
}

// P5.1: each sort's first and last operation, and those that stand beside them.
func TestSortEnds(t *testing.T) {
	for _, c := range []struct{ sort, first, last int }{
		{ops.Upper, api.LUI, api.AUIPC}, {ops.Jump, api.JAL, api.JALR}, {ops.Branch, api.BEQ, api.BGEU}, {ops.Load, api.LB, api.LWU},
		{ops.Store, api.SB, api.SD}, {ops.Number, api.ADDI, api.SRAIW}, {ops.Pair, api.ADD, api.SRAW}, {ops.Fence, api.FENCE, api.TSO},
		{ops.Halt, api.ECALL, api.EBREAK}, {ops.Reserve, api.LRW, api.LRD}, {ops.Conditional, api.SCW, api.SCD}, {ops.Atomic, api.SWAPW, api.MAXUD},
	} {
		for op := c.first; op <= c.last; op++ {
			if got := ops.Sort(op); got != c.sort {
				t.Errorf("%d: sort %d, not %d", op, got, c.sort)
			}
		}
		for op, want := range map[int]int{c.first - 1: c.sort - 1, c.last + 1: (c.sort + 1) % (ops.Atomic + 1)} {
			if got := ops.Sort(op); got != want {
				t.Errorf("%d: sort %d, not %d", op, got, want)
			}
		}
	}
}

// P5.1: what is of memory is what loads or stores.
func TestMemory(t *testing.T) {
	for op := range api.MaxOp + 1 {
		if got := ops.Memory(op); got != (ops.Loads(op) || ops.Stores(op)) {
			t.Errorf("%d: %v", op, got)
		}
	}
}

// P5.1 to P5.3: where there is no operation.
func TestNoOperation(t *testing.T) {
	for _, op := range notOps() {
		if sort, size := ops.Sort(op), ops.Size(op); sort != 0 || size != 0 {
			t.Errorf("%d: sort %d, size %d", op, sort, size)
		}
		if ops.Memory(op) || ops.Loads(op) || ops.Stores(op) {
			t.Errorf("%d: memory %v, loads %v, stores %v", op, ops.Memory(op), ops.Loads(op), ops.Stores(op))
		}
		i := api.Inst{Op: op, Rd: 1, Rs1: 2, Rs2: 3, Imm: 4, Aq: true, Rl: true, Pred: 5, Succ: 6}
		if l, to := ops.Sources(i), ops.Target(i); len(l) != 0 || to != 0 {
			t.Errorf("%d: sources %v, target %d", op, l, to)
		}
		if name := ops.Name(op); name != "" {
			t.Errorf("%d: %q", op, name)
		}
	}
}

// P5.2: as it is written down.
func TestRegistersWrittenDown(t *testing.T) {
	for _, c := range []struct {
		i    api.Inst
		from []int
		to   int
	}{
		{api.Inst{Op: api.ADD, Rd: 1, Rs1: 0, Rs2: 5}, []int{5}, 1},
		{api.Inst{Op: api.ADD, Rd: 1, Rs1: 5, Rs2: 0}, []int{5}, 1},
		{api.Inst{Op: api.ADD, Rd: 0, Rs1: 0, Rs2: 0}, nil, 0},
		{api.Inst{Op: api.ADD, Rd: 31, Rs1: 31, Rs2: 1}, []int{31, 1}, 31},
		{api.Inst{Op: api.ADD, Rd: 5, Rs1: 5, Rs2: 5}, []int{5, 5}, 5},
		{api.Inst{Op: api.ADD, Rd: 32, Rs1: 32, Rs2: 31}, []int{31}, 0},
		{api.Inst{Op: api.ADD, Rd: -1, Rs1: 7, Rs2: -7}, []int{7}, 0},
		{api.Inst{Op: api.SUB, Rd: 9, Rs1: 3, Rs2: 2}, []int{3, 2}, 9},
		{api.Inst{Op: api.LUI, Rd: 1, Rs1: 2, Rs2: 3}, nil, 1},
		{api.Inst{Op: api.JAL, Rd: 1, Rs1: 2, Rs2: 3}, nil, 1},
		{api.Inst{Op: api.JALR, Rd: 1, Rs1: 2, Rs2: 3}, []int{2}, 1},
		{api.Inst{Op: api.BEQ, Rd: 1, Rs1: 2, Rs2: 3}, []int{2, 3}, 0},
		{api.Inst{Op: api.LD, Rd: 1, Rs1: 2, Rs2: 3}, []int{2}, 1},
		{api.Inst{Op: api.SD, Rd: 1, Rs1: 2, Rs2: 3}, []int{2, 3}, 0},
		{api.Inst{Op: api.SD, Rd: 1, Rs1: 0, Rs2: 0}, nil, 0},
		{api.Inst{Op: api.ADDI, Rd: 1, Rs1: 2, Rs2: 3}, []int{2}, 1},
		{api.Inst{Op: api.FENCE, Rd: 1, Rs1: 2, Rs2: 3, Pred: 15, Succ: 15}, nil, 0},
		{api.Inst{Op: api.EBREAK, Rd: 1, Rs1: 2, Rs2: 3}, nil, 0},
		{api.Inst{Op: api.LRD, Rd: 1, Rs1: 2, Rs2: 3}, []int{2}, 1},
		{api.Inst{Op: api.SCW, Rd: 1, Rs1: 2, Rs2: 3}, []int{2, 3}, 1},
		{api.Inst{Op: api.SWAPD, Rd: 1, Rs1: 2, Rs2: 3}, []int{2, 3}, 1},
	} {
		if l, to := ops.Sources(c.i), ops.Target(c.i); !slices.Equal(l, c.from) || to != c.to {
			t.Errorf("%+v: %v %d, not %v %d", c.i, l, to, c.from, c.to)
		}
	}
}

// P5.2: every operation with all registers, those that count as 0 too.
func TestRegisters(t *testing.T) {
	for _, r := range rows() {
		for _, first := range registers() {
			for _, second := range registers() {
				i := api.Inst{Op: r.op, Rd: 1, Rs1: first, Rs2: second}
				if got := ops.Sources(i); !slices.Equal(got, r.sources(i)) {
					t.Errorf("%s: sources of %d, %d: %v, not %v", r.name, first, second, got, r.sources(i))
				}
			}
		}
		for _, rd := range registers() {
			i := api.Inst{Op: r.op, Rd: rd, Rs1: 1, Rs2: 2}
			if got := ops.Target(i); got != r.target(i) {
				t.Errorf("%s: target of %d: %d, not %d", r.name, rd, got, r.target(i))
			}
		}
	}
}

// P5.2: each register from 0 to 31, as each of the three.
func TestEachRegister(t *testing.T) {
	for k := range 32 {
		var want []int
		if k > 0 {
			want = []int{k}
		}
		first, second, target := api.Inst{Op: api.ADD, Rs1: k}, api.Inst{Op: api.ADD, Rs2: k}, api.Inst{Op: api.ADD, Rd: k}
		if !slices.Equal(ops.Sources(first), want) || !slices.Equal(ops.Sources(second), want) || ops.Target(target) != k {
			t.Errorf("%d: %v %v %d", k, ops.Sources(first), ops.Sources(second), ops.Target(target))
		}
	}
}

// P5.2: what an instruction has besides turns nothing.
func TestOtherFields(t *testing.T) {
	for _, r := range rows() {
		plain := api.Inst{Op: r.op, Rd: 4, Rs1: 6, Rs2: 8}
		for _, imm := range []int64{0, 1, -1, math.MinInt64, math.MaxInt64} {
			i := plain
			i.Imm, i.Aq, i.Rl, i.Pred, i.Succ = imm, true, true, 15, math.MinInt
			if !slices.Equal(ops.Sources(i), r.sources(plain)) || ops.Target(i) != r.target(plain) {
				t.Errorf("%+v: %v %d", i, ops.Sources(i), ops.Target(i))
			}
		}
	}
}

// P5.2 and rule 4: answers share nothing, their spare room neither.
func TestSourcesAreNew(t *testing.T) {
	i := api.Inst{Op: api.ADD, Rs1: 3, Rs2: 4}
	one, other := ops.Sources(i), ops.Sources(i)
	for k := range one[:cap(one)] {
		one[:cap(one)][k] = -9
	}
	if want := []int{3, 4}; !slices.Equal(other, want) || !slices.Equal(ops.Sources(i), want) {
		t.Error(other, ops.Sources(i))
	}
	if slices.Contains(other[:cap(other)], -9) {
		t.Error(other[:cap(other)])
	}
}

// P5.3: every operation's name.
func TestName(t *testing.T) {
	for _, r := range rows() {
		if got := ops.Name(r.op); got != r.name {
			t.Errorf("%d: %q, not %q", r.op, got, r.name)
		}
		if got := ops.ByName(r.name); got != r.op {
			t.Errorf("%q: %d, not %d", r.name, got, r.op)
		}
	}
}

// P5.3: texts that are no names.
func TestNoName(t *testing.T) {
	for _, s := range []string{
		"", " ", ".", "\x00", "0", "1", "LUI", "Lui", "lui ", " lui", "lui\x00", "lui\n", "lui,", "luiauipc", "lui auipc",
		"tso", "fence.", ".tso", "fence.TSO", "fencetso", "fence tso", "fence.tso.", "fence.w", "fence.i",
		"lr", "lr.", "lrw", "lr.ww", "lr.h", "lr.W", "sc", "scd", "sc.b", "amo", "amoswap", "amoswap.", "amoswapw", "swap.w", "swapw", "amoadd", "amoaddw", "amosub.w", "amoadd.q", "min.w", "minw", "max.d", "maxud", "amomaxu.u",
		"add.w", "sub.w", "subi", "subiw", "sltiw", "sltw", "lwd", "ldu", "sbu", "swu", "bgt", "ble", "j", "li", "nop", "halt", "mul", "ecal", "ebreak1",
		"\xff", "lu\xed", "lui\xff", "ſw", "ﬁ", "lüi", strings.Repeat("lui", 1000), strings.Repeat("a", 1<<16),
	} {
		if got := ops.ByName(s); got != 0 {
			t.Errorf("%q: %d", s, got)
		}
	}
}

// P5.3: names that differ in a letter or a point: one that is taken away, doubled, made great, or put in another's place.
func TestNearNames(t *testing.T) {
	all := byName()
	ask := func(s string) {
		t.Helper()
		if got := ops.ByName(s); got != all[s] {
			t.Errorf("%q: %d, not %d", s, got, all[s])
		}
	}
	for _, r := range rows() {
		ask(strings.ToUpper(r.name))
		ask(strings.ReplaceAll(r.name, ".", ""))
		for k := range r.name {
			head, one, tail := r.name[:k], r.name[k:k+1], r.name[k+1:]
			ask(head)
			ask(one + tail)
			ask(head + tail)
			ask(head + one + one + tail)
			ask(head + strings.ToUpper(one) + tail)
			ask(head + "." + one + tail)
			for other := range 256 {
				ask(head + string([]byte{byte(other)}) + tail)
				ask(r.name + string([]byte{byte(other)}))
			}
		}
	}
}

// P5.4
func TestNamesAreUnlike(t *testing.T) {
	seen := map[string]int{}
	for op := 1; op <= api.MaxOp; op++ {
		name := ops.Name(op)
		if other, ok := seen[name]; ok || name == "" {
			t.Errorf("%d and %d: %q", other, op, name)
		}
		seen[name] = op
		if got := ops.ByName(name); got != op {
			t.Errorf("%q: %d, not %d", name, got, op)
		}
	}
}
