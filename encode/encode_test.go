package encode_test

import (
	"math"
	"slices"
	"testing"

	"undertow/api"
	"undertow/decode"
	"undertow/encode"
)

// P7.1: as it is written down.
func TestWrittenDown(t *testing.T) {
	had := map[int]bool{}
	for _, c := range allWritten() {
		had[c.i.Op] = true
		if w, e := encode.Encode(c.i); w != c.w || e != api.OK {
			t.Errorf("%+v: %08x %v, not %08x", c.i, w, e, c.w)
		}
		if !encode.Right(c.i) {
			t.Errorf("%+v isn't right", c.i)
		}
		if i, e := decode.Decode(c.w); i != c.i || e != api.OK {
			t.Errorf("%08x is %+v %v", c.w, i, e)
		}
	}
	if len(had) != api.MaxOp {
		t.Errorf("%d operations", len(had))
	}
	for _, c := range []written{
		{0x00a0_0093, api.Inst{Op: api.ADDI, Rd: 1, Imm: 10}},
		{0x8330_000f, api.Inst{Op: api.TSO, Pred: 3, Succ: 3}},
		{0x1005_25af, api.Inst{Op: api.LRW, Rd: 11, Rs1: 10}},
	} {
		if w, e := encode.Encode(c.i); w != c.w || e != api.OK {
			t.Errorf("%+v: %08x %v, not %08x", c.i, w, e, c.w)
		}
	}
}

// P7.1: what is written down as not right.
func TestWrong(t *testing.T) {
	for _, i := range []api.Inst{
		{}, {Op: -1}, {Op: 76}, {Op: math.MinInt}, {Op: math.MaxInt}, {Rd: 1}, {Op: 1 << 32}, {Op: 1<<32 + api.ADDI},
		{Op: api.ADDI, Rd: -1}, {Op: api.ADDI, Rd: 32}, {Op: api.ADDI, Rs1: -1}, {Op: api.ADDI, Rs1: 32}, {Op: api.ADD, Rs2: -1}, {Op: api.ADD, Rs2: 32},
		{Op: api.ADD, Rd: 1 << 32}, {Op: api.ADD, Rs1: math.MaxInt}, {Op: api.ADD, Rs2: math.MinInt},
		{Op: api.LUI, Rs1: 1}, {Op: api.LUI, Rs2: 1}, {Op: api.AUIPC, Rs1: 31}, {Op: api.JAL, Rs1: 1}, {Op: api.JAL, Rs2: 31}, {Op: api.JALR, Rs2: 1},
		{Op: api.BEQ, Rd: 1}, {Op: api.LW, Rs2: 1}, {Op: api.SW, Rd: 1}, {Op: api.ADDI, Rs2: 1}, {Op: api.SLLI, Rs2: 1}, {Op: api.SRAIW, Rs2: 1}, {Op: api.LRW, Rs2: 1}, {Op: api.LRD, Rs2: 31},
		{Op: api.FENCE, Rd: 1}, {Op: api.FENCE, Rs1: 1}, {Op: api.FENCE, Rs2: 1}, {Op: api.TSO, Rd: 1, Pred: 3, Succ: 3}, {Op: api.TSO, Rs1: 1, Pred: 3, Succ: 3}, {Op: api.TSO, Rs2: 19, Pred: 3, Succ: 3},
		{Op: api.ECALL, Rd: 1}, {Op: api.ECALL, Rs2: 1}, {Op: api.EBREAK, Rs1: 1}, {Op: api.EBREAK, Rs2: 1},
		{Op: api.ADDI, Imm: 2048}, {Op: api.ADDI, Imm: -2049}, {Op: api.ADDI, Imm: 4095}, {Op: api.ADDI, Imm: 1 << 32}, {Op: api.ADDIW, Imm: 2048}, {Op: api.JALR, Imm: -2049},
		{Op: api.LD, Imm: 2048}, {Op: api.LB, Imm: -2049}, {Op: api.SD, Imm: 2048}, {Op: api.SB, Imm: -2049},
		{Op: api.BEQ, Imm: 4096}, {Op: api.BEQ, Imm: -4098}, {Op: api.BGEU, Imm: 4095}, {Op: api.BLT, Imm: 1}, {Op: api.BNE, Imm: -1},
		{Op: api.JAL, Imm: 1 << 20}, {Op: api.JAL, Imm: -1<<20 - 2}, {Op: api.JAL, Imm: 1}, {Op: api.JAL, Imm: -3},
		{Op: api.LUI, Imm: 1}, {Op: api.LUI, Imm: 4095}, {Op: api.LUI, Imm: 2048}, {Op: api.LUI, Imm: 1 << 31}, {Op: api.LUI, Imm: -1<<31 - 4096}, {Op: api.AUIPC, Imm: -1}, {Op: api.AUIPC, Imm: 1<<31 - 1},
		{Op: api.SLLI, Imm: 64}, {Op: api.SRLI, Imm: -1}, {Op: api.SRAI, Imm: 0x400}, {Op: api.SRAI, Imm: 64}, {Op: api.SLLIW, Imm: 32}, {Op: api.SRLIW, Imm: 63}, {Op: api.SRAIW, Imm: -1}, {Op: api.SLLI, Imm: math.MinInt64},
		{Op: api.ADD, Imm: 1}, {Op: api.SUBW, Imm: -1}, {Op: api.FENCE, Imm: 1}, {Op: api.TSO, Imm: 1, Pred: 3, Succ: 3}, {Op: api.ECALL, Imm: 1}, {Op: api.EBREAK, Imm: 1}, {Op: api.LRW, Imm: 8}, {Op: api.SCD, Imm: -8}, {Op: api.MAXUD, Imm: 1}, {Op: api.ADD, Imm: math.MinInt64},
		{Op: api.LW, Aq: true}, {Op: api.SD, Rl: true}, {Op: api.ADD, Aq: true, Rl: true}, {Op: api.FENCE, Aq: true}, {Op: api.TSO, Rl: true, Pred: 3, Succ: 3}, {Op: api.LUI, Aq: true}, {Op: api.JAL, Rl: true}, {Op: api.BEQ, Aq: true}, {Op: api.ADDI, Rl: true}, {Op: api.ECALL, Aq: true}, {Op: api.EBREAK, Rl: true},
		{Op: api.FENCE, Pred: 16}, {Op: api.FENCE, Pred: -1}, {Op: api.FENCE, Succ: 16}, {Op: api.FENCE, Succ: -1}, {Op: api.FENCE, Pred: 1 << 32}, {Op: api.FENCE, Succ: math.MinInt},
		{Op: api.TSO}, {Op: api.TSO, Pred: 3}, {Op: api.TSO, Succ: 3}, {Op: api.TSO, Pred: 2, Succ: 3}, {Op: api.TSO, Pred: 3, Succ: 4}, {Op: api.TSO, Pred: 15, Succ: 15}, {Op: api.TSO, Pred: 1<<32 + 3, Succ: 3},
		{Op: api.ADD, Pred: 1}, {Op: api.ADD, Succ: -1}, {Op: api.LW, Pred: 3, Succ: 3}, {Op: api.MAXUD, Succ: 1}, {Op: api.EBREAK, Pred: 15}, {Op: api.LUI, Succ: 2},
	} {
		if w, e := encode.Encode(i); w != 0 || e != api.ErrArg || encode.Right(i) {
			t.Errorf("%+v: %08x %v", i, w, e)
		}
	}
}

// P7.1: numbers of no operation, with nothing else and with what others have.
func TestNoOperation(t *testing.T) {
	for _, op := range notOps() {
		check(t, api.Inst{Op: op})
		check(t, api.Inst{Op: op, Rd: 1, Rs1: 2, Rs2: 3})
		check(t, api.Inst{Op: op, Pred: 3, Succ: 3})
		check(t, api.Inst{Op: op, Imm: 4, Aq: true, Rl: true})
	}
}

// P7.1: every operation with each register that it has from 0 to 31, and with each that it hasn't.
func TestRegisters(t *testing.T) {
	for op := 1; op <= api.MaxOp; op++ {
		for _, i := range []api.Inst{plain(op), full(op)} {
			for _, r := range numbers() {
				a, b, c := i, i, i
				a.Rd, b.Rs1, c.Rs2 = r, r, r
				check(t, a)
				check(t, b)
				check(t, c)
			}
		}
		for d := -1; d <= 32; d++ {
			for a := -1; a <= 32; a++ {
				i := plain(op)
				i.Rd, i.Rs1, i.Rs2 = d, a, 31-d
				check(t, i)
				i.Rs2 = 0
				check(t, i)
			}
		}
	}
}

// P7.1: every operation with immediates at both ends and beyond, with odd ones, and with such as have low bits.
func TestImmediates(t *testing.T) {
	for op := 1; op <= api.MaxOp; op++ {
		k, _ := kindOf(op)
		for _, i := range []api.Inst{plain(op), full(op)} {
			for _, imm := range k.immediates() {
				i.Imm = imm
				check(t, i)
			}
			for imm := int64(-5000); imm <= 5000; imm++ {
				i.Imm = imm
				check(t, i)
			}
		}
	}
}

// P7.1: shifts by each number that there may be.
func TestShifts(t *testing.T) {
	for op, head := range map[int]uint32{
		api.SLLI: 0x0002_9393, api.SRLI: 0x0002_d393, api.SRAI: 0x4002_d393, api.SLLIW: 0x0002_939b, api.SRLIW: 0x0002_d39b, api.SRAIW: 0x4002_d39b,
	} {
		k, _ := kindOf(op)
		for by := range k.most + 1 {
			w, e := encode.Encode(api.Inst{Op: op, Rd: 7, Rs1: 5, Imm: by})
			if want := head | uint32(by)<<20; w != want || e != api.OK {
				t.Errorf("%d by %d: %08x %v, not %08x", op, by, w, e, want)
			}
		}
	}
}

// P7.1: annotations of every operation.
func TestAnnotations(t *testing.T) {
	for op := 1; op <= api.MaxOp; op++ {
		for _, i := range []api.Inst{plain(op), full(op)} {
			i.Aq, i.Rl = false, false
			w, _ := encode.Encode(i)
			for both := range uint32(4) {
				i.Aq, i.Rl = both&2 != 0, both&1 != 0
				check(t, i)
				if got, e := encode.Encode(i); e == api.OK && got != w|both<<25 {
					t.Errorf("%+v: %08x, not %08x", i, got, w|both<<25)
				}
			}
		}
	}
}

// P7.1: fences with all their sets, and with such as are none; so other operations.
func TestSets(t *testing.T) {
	for op := 1; op <= api.MaxOp; op++ {
		i := plain(op)
		for i.Pred = -3; i.Pred < 35; i.Pred++ {
			for i.Succ = -3; i.Succ < 35; i.Succ++ {
				check(t, i)
			}
		}
		for _, n := range numbers() {
			a, b := plain(op), full(op)
			a.Pred, b.Succ = n, n
			check(t, a)
			check(t, b)
			a, b = full(op), plain(op)
			a.Pred, b.Succ = n, n
			check(t, a)
			check(t, b)
		}
	}
	for p := range uint32(16) {
		for s := range uint32(16) {
			w, e := encode.Encode(api.Inst{Op: api.FENCE, Pred: int(p), Succ: int(s)})
			if want := p<<24 | s<<20 | 0x0f; w != want || e != api.OK {
				t.Errorf("%d %d: %08x %v, not %08x", p, s, w, e, want)
			}
		}
	}
}

// draw is a source of numbers that are as good as any, and the same each time.
type draw uint64

// of is one of n numbers, from 0 on.
func (d *draw) of(n int) int {
	*d = *d*6364136223846793005 + 1442695040888963407
	return int(uint64(*d) >> 33 % uint64(n))
}

// inst is an instruction that is often right, and else often wrong in one part alone.
func (d *draw) inst() api.Inst {
	op := 1 + d.of(api.MaxOp)
	k, _ := kindOf(op)
	i := api.Inst{
		Op: op, Rd: d.of(k.mostRegister("d") + 1), Rs1: d.of(k.mostRegister("a") + 1), Rs2: d.of(k.mostRegister("b") + 1),
		Imm: k.least + int64(d.of(int((k.most-k.least)/k.step)+1))*k.step,
		Aq:  k.annotated && d.of(2) == 0, Rl: k.annotated && d.of(2) == 0,
		Pred: k.leastSet + d.of(k.mostSet-k.leastSet+1), Succ: k.leastSet + d.of(k.mostSet-k.leastSet+1),
	}
	switch d.of(20) {
	case 0:
		i.Rd = d.of(40) - 4
	case 1:
		i.Rs1 = d.of(40) - 4
	case 2:
		i.Rs2 = d.of(40) - 4
	case 3:
		i.Imm = int64(d.of(1<<22) - 1<<21)
	case 4:
		i.Aq = true
	case 5:
		i.Rl = true
	case 6:
		i.Pred = d.of(20) - 2
	case 7:
		i.Succ = d.of(20) - 2
	case 8:
		i.Op = d.of(90) - 5
	}
	return i
}

// P7.1: many instructions, right ones and wrong ones.
func TestManyInstructions(t *testing.T) {
	d, rights := draw(7), 0
	for range 500_000 {
		i := d.inst()
		check(t, i)
		if right(i) {
			rights++
		}
	}
	if rights < 200_000 || rights > 480_000 {
		t.Errorf("%d right ones", rights)
	}
}

// P7.3: unlike instructions that are right have unlike words; the same one has the same again.
func TestUnlike(t *testing.T) {
	words, d := map[uint32]api.Inst{}, draw(8)
	hold := func(i api.Inst) {
		w, e := encode.Encode(i)
		if e != api.OK {
			return
		}
		if other, ok := words[w]; ok && other != i {
			t.Fatalf("%08x is of %+v and %+v", w, i, other)
		}
		words[w] = i
		if again, e := encode.Encode(i); again != w || e != api.OK {
			t.Fatalf("%+v: %08x, and %08x %v", i, w, again, e)
		}
	}
	for _, c := range allWritten() {
		hold(c.i)
	}
	for p := range 16 {
		for s := range 16 {
			hold(api.Inst{Op: api.FENCE, Pred: p, Succ: s})
		}
	}
	for range 300_000 {
		hold(d.inst())
	}
}

// holdWord holds that Encode of Decode of a word is the word, but for a fence's ignored bits.
func holdWord(t *testing.T, w uint32) {
	t.Helper()
	i, e := decode.Decode(w)
	if e != api.OK {
		return
	}
	if got, e := encode.Encode(i); got != w&^ignored(i.Op) || e != api.OK || !encode.Right(i) {
		t.Fatalf("%08x, %+v: %08x %v", w, i, got, e)
	}
}

// P7.3: Encode of Decode, of each opcode with each f3, f7, and all of rs2's bits; of written words with each two bits turned; of many others.
func TestWordOfWord(t *testing.T) {
	for op := 1; op <= api.MaxOp; op++ {
		for f3 := range uint32(8) {
			for upper := range uint32(1 << 12) {
				holdWord(t, upper<<20|25<<15|f3<<12|18<<7|decode.Opcode(op))
			}
		}
	}
	for _, c := range allWritten() {
		for k := range 32 {
			for j := range k + 1 {
				holdWord(t, c.w^1<<k)
				holdWord(t, c.w^1<<k^1<<j)
			}
		}
	}
	d := draw(9)
	for range 1_000_000 {
		w := uint32(d.of(1<<16))<<16 | uint32(d.of(1<<16))
		holdWord(t, w&^0x7f|decode.Opcode(1+d.of(api.MaxOp)))
	}
}

// P7.3: Encode of Decode with each ignored bit of a fence set, with all of them, and with none.
func TestFencesOfFences(t *testing.T) {
	for upper := range uint32(1 << 12) {
		w := upper<<20 | 0x0f
		want := w & 0x0fff_ffff
		if upper == 0x833 {
			want = w
		}
		for _, other := range []uint32{0, 0x0000_0080, 0x0000_0800, 0x0000_8000, 0x0008_0000, 0x0005_0a80, 0x000f_8f80} {
			i, _ := decode.Decode(w | other)
			if got, e := encode.Encode(i); got != want || e != api.OK {
				t.Fatalf("%08x: %08x %v, not %08x", w|other, got, e, want)
			}
		}
	}
}

// rights are n instructions that are right.
func rights(n int) []api.Inst {
	d, l := draw(n), make([]api.Inst, 0, n)
	for len(l) < n {
		if i := d.inst(); right(i) {
			l = append(l, i)
		}
	}
	return l
}

// P7.2 and P7.3: programs of no instruction and of many; List of Program is the list.
func TestProgram(t *testing.T) {
	for _, l := range [][]api.Inst{nil, {}} {
		if b, e := encode.Program(l); len(b) != 0 || e != api.OK {
			t.Errorf("%v: %x %v", l, b, e)
		}
	}
	for _, n := range []int{1, 2, 3, 4, 7, 8, 63, 255, 256, 257, 1000, 20_000} {
		l := rights(n)
		was := slices.Clone(l)
		b, e := encode.Program(l)
		if e != api.OK || len(b) != 4*n || !slices.Equal(l, was) {
			t.Fatalf("%d: %d bytes %v", n, len(b), e)
		}
		for k, i := range l {
			w, _ := encode.Encode(i)
			if got := b[4*k : 4*k+4]; number(got) != w {
				t.Fatalf("%d of %d, %+v: %x, not %08x", k, n, i, got, w)
			}
		}
		if got := encode.List(b); !slices.Equal(got, l) {
			t.Fatalf("%d: List of Program is another one", n)
		}
	}
}

// P7.2: as it is written down, of bytes the least one first.
func TestProgramWrittenDown(t *testing.T) {
	l := []api.Inst{{Op: api.ADDI, Rd: 1, Imm: 10}, {Op: api.TSO, Pred: 3, Succ: 3}, {Op: api.LRW, Rd: 11, Rs1: 10}, {Op: api.ECALL}, {Op: api.ECALL}}
	want := []byte{0x93, 0, 0xa0, 0, 0x0f, 0, 0x30, 0x83, 0xaf, 0x25, 0x05, 0x10, 0x73, 0, 0, 0, 0x73, 0, 0, 0}
	if b, e := encode.Program(l); e != api.OK || !slices.Equal(b, want) {
		t.Errorf("%x %v, not %x", b, e, want)
	}
	if got := encode.List(want); !slices.Equal(got, l) {
		t.Errorf("%v, not %v", got, l)
	}
}

// P7.2: a list whose first, middle or last instruction isn't right, some of which aren't, or all.
func TestProgramWrong(t *testing.T) {
	wrongs := []api.Inst{{}, {Op: -1}, {Op: api.MaxOp + 1}, {Op: api.ADD, Rd: 32}, {Op: api.ADDI, Imm: 2048}, {Op: api.BEQ, Imm: 1}, {Op: api.LW, Aq: true}, {Op: api.TSO}, {Op: api.FENCE, Succ: 16}, {Op: api.LRD, Rs2: 1}}
	for _, n := range []int{1, 2, 3, 4, 9, 100} {
		for _, wrong := range wrongs {
			for k := range n {
				l := rights(n)
				l[k] = wrong
				if b, e := encode.Program(l); len(b) != 0 || e != api.ErrArg {
					t.Fatalf("%d of %d is %+v: %x %v", k, n, wrong, b, e)
				}
				l[n-1-k] = wrong
				if b, e := encode.Program(l); len(b) != 0 || e != api.ErrArg {
					t.Fatalf("%d of %d from both ends is %+v: %x %v", k, n, wrong, b, e)
				}
			}
			if b, e := encode.Program(slices.Repeat([]api.Inst{wrong}, n)); len(b) != 0 || e != api.ErrArg {
				t.Fatalf("%d of %+v: %x %v", n, wrong, b, e)
			}
		}
	}
}

// P7.2: each four bytes' instruction, and nothing of those behind the last four.
func TestList(t *testing.T) {
	d := draw(10)
	for n := range 130 {
		b := make([]byte, n)
		for k := range b {
			b[k] = byte(d.of(256))
			if k%4 == 0 && d.of(4) != 0 {
				b[k] = byte(decode.Opcode(1+d.of(api.MaxOp))) | b[k]&0x80
			}
		}
		var want []api.Inst
		for k := 0; k+4 <= n; k += 4 {
			i, _ := decode.Decode(number(b[k:]))
			want = append(want, i)
		}
		was := slices.Clone(b)
		if got := encode.List(b); !slices.Equal(got, want) || !slices.Equal(b, was) {
			t.Fatalf("%x: %v, not %v", b, got, want)
		}
	}
	for _, b := range [][]byte{nil, {}, {0x73}, {0x73, 0}, {0x73, 0, 0}} {
		if got := encode.List(b); len(got) != 0 {
			t.Errorf("%x: %v", b, got)
		}
	}
}

// P7.2: bytes that are written down: of illegal words, of a fence with ignored bits set, behind the last four.
func TestListWrittenDown(t *testing.T) {
	call, fence := api.Inst{Op: api.ECALL}, api.Inst{Op: api.FENCE, Pred: 15, Succ: 15}
	for _, c := range []struct {
		b []byte
		l []api.Inst
	}{
		{[]byte{0, 0, 0, 0}, []api.Inst{{}}},
		{[]byte{0xff, 0xff, 0xff, 0xff, 0x73, 0, 0, 0}, []api.Inst{{}, call}},
		{[]byte{0x73, 0, 0, 0, 0, 0, 0, 0}, []api.Inst{call, {}}},
		{[]byte{0x73, 0, 0, 0, 1, 2, 3, 4, 0x73, 0, 0, 0}, []api.Inst{call, {}, call}},
		{[]byte{0, 0x73, 0, 0, 0}, []api.Inst{{}}},
		{[]byte{0x73, 0, 0, 0, 0x73, 0, 0}, []api.Inst{call}},
		{[]byte{0, 0, 0, 0x73}, []api.Inst{{}}},
		{[]byte{0x8f, 0x8f, 0xff, 0x7f}, []api.Inst{fence}},
		{[]byte{0x8f, 0x9f, 0xff, 0x7f}, []api.Inst{{}}},
	} {
		if got := encode.List(c.b); !slices.Equal(got, c.l) {
			t.Errorf("%x: %v, not %v", c.b, got, c.l)
		}
	}
}

// P7.2 and rule 4: what is handed in is neither changed nor kept, its spare room included; answers are new memory.
func TestMemory(t *testing.T) {
	room := rights(12)
	was := slices.Clone(room)
	b, _ := encode.Program(room[:5])
	c, _ := encode.Program(room[:5])
	fill(b[:cap(b)])
	if want, _ := encode.Program(was[:5]); !slices.Equal(room, was) || !slices.Equal(c, want) {
		t.Errorf("a program's list or another one's bytes have changed")
	}
	bytes := slices.Repeat([]byte{0x73, 0, 0, 0}, 6)
	old := slices.Clone(bytes)
	l, m := encode.List(bytes[:10]), encode.List(bytes[:10])
	for k := range l[:cap(l)] {
		l[:cap(l)][k] = api.Inst{Op: -1}
	}
	call := api.Inst{Op: api.ECALL}
	if !slices.Equal(bytes, old) || !slices.Equal(m, []api.Inst{call, call}) {
		t.Errorf("a list's bytes or another one's instructions have changed")
	}
	fill(bytes)
	if !slices.Equal(m, []api.Inst{call, call}) {
		t.Errorf("a list has changed with its bytes")
	}
}

// fill makes all bytes others than they might have been.
func fill(b []byte) {
	for k := range b {
		b[k] = 0xee
	}
}
