package seq_test

import (
	"math"
	"slices"
	"strings"
	"testing"

	"undertow/api"
	"undertow/ops"
	"undertow/seq"
)

// alone is a source's program, done by a hart from 0 on whose x1 is a, whose x2 is b.
func alone(t *testing.T, source string, size int, a, b uint64) (api.Hart, []byte, []api.Done) {
	t.Helper()
	h := api.Hart{}
	h.X[1], h.X[2] = a, b
	return seq.Alone(h, assemble(t, source, size), 1000)
}

// program is lines, one below the other.
func program(lines ...string) string { return strings.Join(lines, "\n") }

// P11.2: the chapter's example.
func TestAloneExample(t *testing.T) {
	img := assemble(t, "addi x1, x0, 5\nhalt", 8)
	h, mem, l := seq.Alone(api.Hart{}, img, 100)
	want := []api.Done{{Inst: api.Inst{Op: api.ADDI, Rd: 1, Imm: 5}, Val: 5}, {PC: 4, Inst: api.Inst{Op: api.EBREAK}, Cause: api.CauseBreak}}
	end := api.Hart{PC: 4, Cause: api.CauseBreak}
	end.X[1] = 5
	if h != end || !slices.Equal(l, want) || !slices.Equal(mem, img) {
		t.Errorf("%+v %v %+v", h, mem, l)
	}
}

// P11.2: what halts a hart at once, in images of 0, 3 and 4 bytes and of MaxMemory; that is one thing done.
func TestAloneCauses(t *testing.T) {
	for _, c := range []struct {
		source     string
		size       int
		pc         uint64
		cause      int
		addr, last uint64
		n          int
	}{
		{"", 0, 0, api.CauseFetch, 0, 0, 1},
		{"", 3, 0, api.CauseFetch, 0, 0, 1},
		{"", 3, 1, api.CauseFetch, 0, 1, 1},
		{"", 4, 0, api.CauseIllegal, 0, 0, 1},
		{"nop", 4, 0, api.CauseFetch, 0, 4, 2},
		{"nop", 4, m1, api.CauseFetch, 0, m1, 1},
		{"nop", 4, m1 - 3, api.CauseFetch, 0, m1 - 3, 1},
		{"halt", 4, 0, api.CauseBreak, 0, 0, 1},
		{"ecall", 4, 0, api.CauseCall, 0, 0, 1},
		{"nop", 7, 0, api.CauseFetch, 0, 4, 2},
		{"nop\nlh x1, 7(x0)", 8, 0, api.CauseAlign, 7, 4, 2},
		{"nop\nlh x1, 8(x0)", 8, 0, api.CauseRange, 8, 4, 2},
		{"sd x1, 0(x0)", 7, 0, api.CauseRange, 0, 0, 1},
		{"jalr x1, x0, 6", 8, 0, api.CauseFetch, 0, 6, 2},
		{"j end\n.org 1020\nend: # beneath\n", 1024, 0, api.CauseIllegal, 0, 1020, 2},
		{".org 1020\nnop", 1024, 1020, api.CauseFetch, 0, 1024, 2},
		{".org 1020\nhalt", 1024, 1020, api.CauseBreak, 0, 1020, 1},
		{"lw x1, 1020(x0)\nld x2, 1016(x0)\nsb x2, 1023(x0)\nsb x2, 1024(x0)", 1024, 0, api.CauseRange, 1024, 12, 4},
		{"jal x1, -4", 4, 0, api.CauseFetch, 0, m1 - 3, 2},
	} {
		source, _, _ := strings.Cut(c.source, " #")
		img := assemble(t, source, c.size)
		h, mem, l := seq.Alone(api.Hart{PC: c.pc}, img, 100)
		if len(l) != c.n {
			t.Errorf("%q: %d done", c.source, len(l))
			continue
		}
		last := l[c.n-1]
		if h.Cause != c.cause || h.PC != c.last || last.Cause != c.cause || last.PC != c.last || last.Addr != c.addr || len(mem) != c.size {
			t.Errorf("%q: %+v %d %+v", c.source, h, len(mem), l)
		}
		if c.cause == api.CauseFetch || c.cause == api.CauseIllegal {
			if last != (api.Done{PC: c.last, Cause: c.cause}) {
				t.Errorf("%q: %+v", c.source, last)
			}
		}
	}
}

// P11.2, P11.5: each size is stored at the memory's first and last bytes, and loaded again, with its sign and without; other bytes stay.
func TestAloneSizes(t *testing.T) {
	for _, c := range []struct {
		store, load, plain string
		n                  int
	}{{"sb", "lb", "lbu", 1}, {"sh", "lh", "lhu", 2}, {"sw", "lw", "lwu", 4}, {"sd", "ld", "ld", 8}} {
		for _, at := range []string{"0", "32", "56", "1016", last(c.n)} {
			for _, x := range []uint64{0x8182_8384_8586_8788, 0x0102_0304_0506_0708, 0xff, 0x7f, 0, m1, 0x8000, 0x8000_0000} {
				img := assemble(t, program(c.store+" x1, "+at+"(x2)", c.load+" x3, "+at+"(x2)", c.plain+" x4, "+at+"(x2)", "halt", ".org 1008", ".dword -1", ".dword -1"), 1024)
				h := api.Hart{}
				h.X[1] = x
				h, mem, l := seq.Alone(h, img, 100)
				if len(l) != 4 || h.Cause != api.CauseBreak {
					t.Fatalf("%s at %s: %+v", c.store, at, l)
				}
				sign := x << (64 - 8*c.n)
				want, wantPlain := uint64(int64(sign)>>(64-8*c.n)), low(x, c.n)
				if l[0].Wrote != wantPlain || l[1].Read != wantPlain || l[2].Read != wantPlain || h.X[3] != want || l[1].Val != want || c.n < 8 && h.X[4] != wantPlain {
					t.Errorf("%s of %x at %s: %+v", c.store, x, at, l)
				}
				for k := range img {
					place := uint64(k) - l[0].Addr
					if place < uint64(c.n) {
						img[k] = byte(x >> (8 * place))
					}
				}
				if !slices.Equal(mem, img) {
					t.Errorf("%s of %x at %s: %v", c.store, x, at, mem)
				}
			}
		}
	}
}

// last is the last place that an operation of n bytes may have in 1024 bytes.
func last(n int) string {
	return map[int]string{1: "1023", 2: "1022", 4: "1020", 8: "1016"}[n]
}

// P11.2: a store's bytes are there then for loads of other sizes, one by one.
func TestAlonePieces(t *testing.T) {
	h, mem, _ := alone(t, program("sd x1, 40(x0)", "sh x2, 42(x0)", "sb x2, 47(x0)", "ld x3, 40(x0)", "lw x4, 40(x0)", "lbu x5, 43(x0)", "lh x6, 46(x0)", "halt"), 48, 0x1122_3344_5566_7788, 0xaabb)
	if h.X[3] != 0xbb22_3344_aabb_7788 || h.X[4] != 0xffff_ffff_aabb_7788 || h.X[5] != 0xaa || h.X[6] != 0xffff_ffff_ffff_bb22 {
		t.Errorf("%x", h.X)
	}
	if !slices.Equal(mem[40:], []byte{0x88, 0x77, 0xbb, 0xaa, 0x44, 0x33, 0x22, 0xbb}) {
		t.Errorf("%x", mem)
	}
}

// P11.2: whether a conditional one fails behind others, at 64 (x1) and 72 (x2) of 80 bytes.
func TestAloneReservations(t *testing.T) {
	for _, c := range []struct {
		lines []string
		fails []bool
	}{
		{[]string{"sc.w x4, x3, (x1)"}, []bool{true}},
		{[]string{"sc.d x4, x3, (x1)", "sc.d x4, x3, (x1)"}, []bool{true, true}},
		{[]string{"lr.w x3, (x1)", "sc.w x4, x3, (x1)"}, []bool{false}},
		{[]string{"lr.d x3, (x1)", "sc.d x4, x3, (x1)"}, []bool{false}},
		{[]string{"lr.w.aq x3, (x1)", "sc.w.rl x4, x3, (x1)", "sc.w x5, x3, (x1)"}, []bool{false, true}},
		{[]string{"lr.w x3, (x1)", "sc.w x4, x3, (x2)"}, []bool{true}},
		{[]string{"lr.d x3, (x1)", "sc.d x4, x3, (x2)"}, []bool{true}},
		{[]string{"lr.w x3, (x1)", "sc.d x4, x3, (x1)"}, []bool{true}},
		{[]string{"lr.d x3, (x1)", "sc.w x4, x3, (x1)"}, []bool{true}},
		{[]string{"lr.w x3, (x1)", "sc.w x4, x3, (x2)", "sc.w x4, x3, (x1)"}, []bool{true, true}},
		{[]string{"lr.w x3, (x1)", "sc.d x4, x3, (x1)", "sc.w x4, x3, (x1)"}, []bool{true, true}},
		{[]string{"lr.d x3, (x1)", "addi x5, x1, 4", "sc.w x4, x3, (x5)"}, []bool{true}},
		{[]string{"lr.w x3, (x1)", "lr.w x3, (x2)", "sc.w x4, x3, (x1)"}, []bool{true}},
		{[]string{"lr.w x3, (x1)", "lr.w x3, (x2)", "sc.w x4, x3, (x2)", "sc.w x4, x3, (x1)"}, []bool{false, true}},
		{[]string{"lr.w x3, (x1)", "lr.d x3, (x1)", "sc.w x4, x3, (x1)"}, []bool{true}},
		{[]string{"lr.w x3, (x1)", "lr.d x3, (x1)", "sc.d x4, x3, (x1)"}, []bool{false}},
		{[]string{"lr.w x3, (x1)", "lr.w x3, (x1)", "sc.w x4, x3, (x1)", "sc.w x4, x3, (x1)"}, []bool{false, true}},
		{[]string{"lr.w x3, (x1)", "sw x3, 0(x1)", "sd x3, 0(x1)", "sb x3, 0(x2)", "sc.w x4, x3, (x1)"}, []bool{false}},
		{[]string{"lr.d x3, (x1)", "amoadd.d x3, x3, (x1)", "amoswap.w x3, x3, (x2)", "sc.d x4, x3, (x1)"}, []bool{false}},
		{[]string{"lr.w x3, (x1)", "lw x3, 0(x1)", "ld x3, 0(x2)", "fence rw, rw", "fence.tso", "addi x3, x3, 1", "beq x0, x0, 4", "jal x5, 4", "sc.w x4, x3, (x1)"}, []bool{false}},
		{[]string{"lr.w x0, (x1)", "sc.w x0, x3, (x1)", "sc.w x0, x3, (x1)"}, []bool{false, true}},
		{[]string{"lr.w x3, (x0)", "sc.w x4, x3, (x0)"}, []bool{false}},
		{[]string{"lr.w x3, (x1)", "sc.w x4, x3, (x0)"}, []bool{true}},
		{[]string{"lr.d x3, (x0)", "sc.d x4, x3, (x1)", "lr.d x3, (x0)", "sc.d x4, x3, (x0)", "lr.d x3, (x1)", "sc.d x4, x3, (x1)"}, []bool{true, false, false}},
	} {
		source := program(append(c.lines, "halt")...)
		h, _, l := alone(t, source, 80, 64, 72)
		var fails []bool
		for _, d := range l {
			if ops.Sort(d.Inst.Op) == ops.Conditional {
				fails = append(fails, d.Failed)
			} else if d.Failed {
				t.Errorf("%q: %+v", source, d)
			}
		}
		if !slices.Equal(fails, c.fails) || h.Cause != api.CauseBreak {
			t.Errorf("%q: %v, not %v", source, fails, c.fails)
		}
	}
}

// P11.2: what a conditional one stores, and tells, that fails or not.
func TestAloneConditional(t *testing.T) {
	h, mem, l := alone(t, program("sc.w x3, x2, (x1)", "lr.w x4, (x1)", "sc.w x5, x2, (x1)", "lw x6, 0(x1)", "sc.w x7, x1, (x1)", "lw x8, 0(x1)", "halt"), 48, 40, 0x5_8000_0009)
	if h.X[3] != 1 || h.X[4] != 0 || h.X[5] != 0 || h.X[6] != 0xffff_ffff_8000_0009 || h.X[7] != 1 || h.X[8] != h.X[6] {
		t.Errorf("%x", h.X)
	}
	if !slices.Equal(mem[40:], []byte{9, 0, 0, 0x80, 0, 0, 0, 0}) {
		t.Errorf("%x", mem)
	}
	sc := func(pc uint64, rd, rs2 int) api.Done {
		return api.Done{PC: pc, Inst: api.Inst{Op: api.SCW, Rd: rd, Rs1: 1, Rs2: rs2}, Addr: 40}
	}
	first, second, third := sc(0, 3, 2), sc(8, 5, 2), sc(16, 7, 1)
	first.Failed, first.Val, third.Failed, third.Val = true, 1, true, 1
	second.Wrote = 0x8000_0009
	if len(l) != 7 || l[0] != first || l[2] != second || l[4] != third {
		t.Errorf("%+v", l)
	}
}

// P11.2: an Atomic of every operation, of what is at 64, which is its size's least number but for 5, and of 3.
func TestAloneAtomics(t *testing.T) {
	for _, c := range []struct {
		name     string
		low, now byte // the low byte that is there then, and the high one
	}{
		{"swap", 3, 0}, {"add", 8, 0x80}, {"xor", 6, 0x80}, {"and", 1, 0}, {"or", 7, 0x80}, {"min", 5, 0x80}, {"max", 3, 0}, {"minu", 3, 0}, {"maxu", 5, 0x80},
	} {
		for _, of := range []struct {
			end  string
			n    int
			old  string
			sign uint64
		}{{".w", 4, ".word -2147483643", 0xffff_ffff_8000_0005}, {".d", 8, ".dword -9223372036854775803", 1<<63 + 5}} {
			want := make([]byte, 16)
			for k := range want {
				want[k] = 0x11
			}
			copy(want, make([]byte, of.n))
			want[0], want[of.n-1] = c.low, c.now
			source := program("amo"+c.name+of.end+" x3, x2, (x1)", "halt", ".org 64", ".dword 1229782938247303441", ".dword 1229782938247303441", ".org 64", of.old)
			h, mem, l := alone(t, source, 80, 64, 3)
			if h.X[3] != of.sign || !slices.Equal(mem[64:], want) || len(l) != 2 {
				t.Errorf("%s: %x %x", source, h.X[3], mem[64:])
				continue
			}
			d := api.Done{Inst: read(t, "amo"+c.name+of.end+" x3, x2, (x1)"), Val: of.sign, Addr: 64, Read: low(of.sign, of.n), Wrote: number(want, 0, of.n)}
			if l[0] != d {
				t.Errorf("%s: %+v, not %+v", source, l[0], d)
			}
		}
	}
}

// P11.2: a program that stores over its own instructions does them as they were; what it loads there is what it stored.
func TestAloneOwnInstructions(t *testing.T) {
	img := assemble(t, program("sd x0, 0(x0)", "sw x1, 8(x0)", "addi x2, x2, 1", "lw x3, 8(x0)", "lw x4, 0(x0)", "sw x0, 24(x0)", "halt", "halt"), 32)
	h := api.Hart{}
	h.X[1] = 0x73
	h, mem, l := seq.Alone(h, img, 100)
	if h.X[2] != 1 || h.X[3] != 0x73 || h.X[4] != 0 || h.Cause != api.CauseBreak || h.PC != 24 || len(l) != 7 {
		t.Errorf("%+v %+v", h, l)
	}
	want := append(words(0, 0, 0x73), img[12:24]...)
	if want = append(append(want, words(0)...), img[28:]...); !slices.Equal(mem, want) {
		t.Errorf("%x, not %x", mem, want)
	}
	if l[2].Inst.Op != api.ADDI || l[6].Inst.Op != api.EBREAK {
		t.Errorf("%+v", l)
	}
}

// P11.2: no more than most instructions are done, whatever most is; one that halts the hart counts.
func TestAloneMost(t *testing.T) {
	img := assemble(t, "addi x1, x1, 1\naddi x1, x1, 1\nsw x1, 16(x0)\nhalt", 20)
	for most, want := range map[int]struct {
		n     int
		pc    uint64
		cause int
	}{
		math.MinInt: {}, -1: {}, 0: {}, 1: {1, 4, 0}, 2: {2, 8, 0}, 3: {3, 12, 0}, 4: {4, 12, api.CauseBreak}, 5: {4, 12, api.CauseBreak}, 100_000: {4, 12, api.CauseBreak}, 100_001: {4, 12, api.CauseBreak}, math.MaxInt: {4, 12, api.CauseBreak},
	} {
		h, mem, l := seq.Alone(api.Hart{X: [32]uint64{7, 40}}, img, most)
		end := api.Hart{PC: want.pc, Cause: want.cause}
		end.X[1] = 40 + uint64(min(want.n, 2))
		after := slices.Clone(img)
		if want.n > 2 {
			after[16] = 42
		}
		if h != end || len(l) != want.n || !slices.Equal(mem, after) {
			t.Errorf("%d: %+v %v %+v", most, h, mem, l)
		}
	}
}

// P11.2: 100,000 instructions are done, at most, by a program that never halts, and by one that would halt then.
func TestAloneMany(t *testing.T) {
	img := assemble(t, "loop:\naddi x1, x1, -1\nbne x1, x0, loop\nhalt", 12)
	for _, c := range []struct {
		x1   uint64
		most int
		n    int
		pc   uint64
	}{
		{0, 99_999, 99_999, 4}, {0, 100_000, 100_000, 0}, {0, 100_001, 100_000, 0}, {0, 200_000, 100_000, 0}, {0, math.MaxInt, 100_000, 0},
		{49_999, 100_001, 99_999, 8}, {50_000, 100_000, 100_000, 8}, {50_000, 100_001, 100_000, 8}, {50_000, math.MaxInt, 100_000, 8},
	} {
		h := api.Hart{}
		h.X[1] = c.x1
		h, _, l := seq.Alone(h, img, c.most)
		if len(l) != c.n || h.PC != c.pc || h.X[1] != c.x1-uint64(c.n/2)-uint64(c.n%2)*(1-min(c.x1, 1)) || (h.Cause != 0) != (c.x1 == 49_999) {
			t.Errorf("%d, at most %d: %d %+v", c.x1, c.most, len(l), h)
		}
	}
}

// P11.3: a hart's register 0 is 0, though nothing is done.
func TestAloneNought(t *testing.T) {
	for _, most := range []int{-1, 0, 1, 2, 3} {
		h, _, _ := seq.Alone(api.Hart{X: registers(1, 2)}, assemble(t, "addi x0, x0, 5\nadd x0, x1, x2\nlw x0, 0(x0)", 12), most)
		want := api.Hart{PC: uint64(max(most, 0) * 4), X: registers(1, 2)}
		if want.X[0] = 0; h != want {
			t.Errorf("%d: %+v", most, h)
		}
	}
}

// againByStep does what a list tells, step by step, with the numbers that were read.
func againByStep(t *testing.T, h api.Hart, img []byte, l []api.Done) api.Hart {
	t.Helper()
	h.X[0] = 0
	for k, want := range l {
		var d api.Done
		h, d = seq.Step(h, img, want.Read, want.Failed)
		if d != want {
			t.Fatalf("at %d: %+v, not %+v", k, d, want)
		}
	}
	return h
}

// P11.2 to P11.5: programs of any right instructions, by harts of any registers, are the model's; Step does again what Alone did; no register 0 is turned; what is stored is loaded again.
func TestAlonePrograms(t *testing.T) {
	d := draw(113)
	seen, done, kept, lost, again := map[int]int{}, 0, 0, 0, 0
	for range 12_000 {
		size := d.of(80)
		img, h, most := d.image(size), d.hart(size), d.of(90)-3
		want, wantMem, wantDone := modelAlone(h, img, most)
		got, mem, l := seq.Alone(h, img, most)
		if got != want || !slices.Equal(mem, wantMem) || !slices.Equal(l, wantDone) {
			t.Fatalf("%+v of %v, %d: %+v %v %+v, not %+v %v %+v", h, img, most, got, mem, l, want, wantMem, wantDone)
		}
		if end := againByStep(t, h, img, l); end != got || got.X[0] != 0 {
			t.Fatalf("%+v, not %+v", end, got)
		}
		for k, a := range l {
			if ops.Sort(a.Inst.Op) == ops.Conditional && a.Cause == 0 && a.Failed {
				lost++
			} else if ops.Sort(a.Inst.Op) == ops.Conditional && a.Cause == 0 {
				kept++
			}
			if k > 0 && a.Cause == 0 && l[k-1].Cause == 0 && ops.Loads(a.Inst.Op) && ops.Stores(l[k-1].Inst.Op) && !l[k-1].Failed && a.Addr == l[k-1].Addr && ops.Size(a.Inst.Op) == ops.Size(l[k-1].Inst.Op) {
				if again++; a.Read != l[k-1].Wrote {
					t.Fatalf("%+v behind %+v", a, l[k-1])
				}
			}
		}
		seen[got.Cause]++
		done += len(l)
	}
	for cause := api.Running; cause <= api.CauseRange; cause++ {
		if seen[cause] < 20 {
			t.Errorf("cause %d: %d times", cause, seen[cause])
		}
	}
	if done < 50_000 || kept < 100 || lost < 1000 || again < 200 {
		t.Errorf("%d done, %d kept, %d lost, %d again", done, kept, lost, again)
	}
}
