package core_test

import (
	"math"
	"strings"
	"testing"

	"undertow/api"
	"undertow/seq"
)

// P17.1, P17.4: each sort that works on registers alone: what it makes of them, and what is told.
func TestExecuted(t *testing.T) {
	h := api.Hart{PC: 8, X: [32]uint64{1: 100, 2: math.MaxUint64 - 2, 3: 33}}
	for s, want := range map[string]api.Done{
		"lui x5, 4096":      {Val: 4096},
		"auipc x5, 4096":    {Val: 4104},
		"jal x5, 16":        {Val: 12},
		"jal x0, -8":        {},
		"jalr x5, x1, 5":    {Val: 12},
		"jalr x1, x1, 0":    {Val: 12},
		"beq x1, x2, 16":    {},
		"bne x1, x2, 16":    {},
		"addi x5, x1, -1":   {Val: 99},
		"addi x0, x1, -1":   {},
		"srai x5, x2, 1":    {Val: math.MaxUint64 - 1},
		"addiw x5, x2, 2":   {Val: math.MaxUint64},
		"sltiu x5, x1, 101": {Val: 1},
		"add x5, x1, x3":    {Val: 133},
		"sub x3, x3, x1":    {Val: math.MaxUint64 - 66},
		"sll x5, x3, x1":    {Val: 33 << 36},
		"add x5, x0, x0":    {},
		"addw x5, x2, x2":   {Val: math.MaxUint64 - 5},
	} {
		b := begin(t, ".org 8\n"+s, h)
		b.play(fetch)
		b.idle(address, load, commit, drain)
		b.can(execute, 0)
		b.play(execute)
		b.idle(execute)
		b.play(commit)
		want.PC = 8
		want.Inst, _ = seq.Fetch(b.img, 8)
		b.told(plain(0, want))
		b.own()
	}
}

// P17.1: what isn't of these sorts, or has a cause, isn't executed.
func TestNotExecuted(t *testing.T) {
	for _, s := range []string{"lw x1, 64(x0)", "sw x1, 64(x0)", "fence rw, rw", "fence.tso", "ecall", "ebreak", "lr.w x1, (x2)", "sc.w x1, x2, (x2)", "amoadd.w x1, x2, (x2)", ".word 0"} {
		b := begin(t, s, api.Hart{X: [32]uint64{2: 64}})
		b.play(fetch)
		b.idle(execute)
	}
}

// P17.1: an instruction is executed when the cells of both its sources are ready, whichever is so first.
func TestSourcesReady(t *testing.T) {
	const program = "addi x1, x0, 1\naddi x2, x0, 2\nadd x3, x1, x2\nbne x1, x2, 8\njalr x4, x1, 0\naddi x5, x2, 0\nhalt"
	b := begin(t, program, api.Hart{})
	b.bring(7)
	b.can(execute, 0, 1)
	b.at(execute, 0)
	b.can(execute, 1, 4)
	b = begin(t, program, api.Hart{})
	b.bring(7)
	b.at(execute, 1)
	b.can(execute, 0, 5)
	b.at(execute, 0)
	b.can(execute, 2, 3, 4, 5)
	b.at(execute, 2)
	b.at(execute, 5)
	b.can(execute, 3, 4)
	b.play(commit, commit, commit)
	b.x(3, 3)
	b.can(execute, 0, 1)
}

// P17.1: a cell that a load fills is ready once it is bound; one that an atomic one fills, once it has retired.
func TestSourcesOfMemory(t *testing.T) {
	b := begin(t, "lw x1, 64(x0)\nadd x2, x1, x1\namoadd.w x3, x1, (x4)\nadd x5, x3, x3\nsc.w x6, x1, (x4)\nadd x7, x6, x6\nhalt\n.org 64\n.word 5", api.Hart{X: [32]uint64{4: 68}})
	b.bring(7)
	b.play(address, address, address)
	b.idle(execute)
	b.at(load, 0)
	b.can(execute, 1)
	b.play(execute, commit, commit)
	b.idle(execute)
	b.play(commit)
	b.can(execute, 0)
	b.play(execute, commit)
	b.idle(execute)
	b.play(commit)
	b.can(execute, 0)
	b.finish()
	b.x(2, 10)
	b.x(7, 2)
	b.own()
}

// behind is what may stand behind a jump: all of it claims, and some of it is done.
var behind = strings.Repeat("addi x1, x1, 1\n", 16) + "halt"

// P17.1: one that goes on at what was thought keeps all that is behind it.
func TestThought(t *testing.T) {
	for s, at := range map[string]uint64{
		"jal x5, 4":      4,
		"jal x5, 16":     16,
		"jalr x5, x0, 4": 4,
		"jalr x5, x0, 5": 4,
		"beq x0, x5, 4":  4,
		"beq x0, x6, 16": 4,
		"bne x0, x0, 16": 4,
	} {
		for n := range 12 {
			b := begin(t, s+"\n"+behind, api.Hart{X: [32]uint64{6: 1}})
			b.bring(1 + n)
			b.at(execute, 0)
			if l := b.Flight(); len(l) != 1+n {
				t.Error(s, n, l)
			}
			b.play(commit)
			if h := b.Hart(); h.PC != at {
				t.Error(s, n, h)
			}
			b.finish()
			b.own()
		}
	}
}

// P17.1: one that goes on elsewhere squashes all that is behind it, with nothing behind it, something and much; their claims are undone.
func TestNotThought(t *testing.T) {
	for s, at := range map[string]uint64{
		"beq x0, x0, 16":   16,
		"bne x0, x6, 40":   40,
		"bltu x0, x6, -16": math.MaxUint64 - 15,
		"jalr x5, x0, 0":   0,
		"jalr x5, x0, 17":  16,
		"jalr x5, x0, 2":   2,
		"jalr x0, x6, 40":  40,
	} {
		for n := range 12 {
			b := begin(t, s+"\n"+behind, api.Hart{X: [32]uint64{1: 50, 6: 1}})
			b.bring(1 + n)
			for k := range n / 2 {
				b.at(execute, 1+k)
			}
			b.at(execute, 0)
			b.flies(0)
			b.can(fetch, 0)
			b.play(commit)
			if h := b.Hart(); h.PC != at {
				t.Error(s, n, h)
			}
			b.x(1, 50)
			b.play(fetch)
			b.flies(3 * (1 + n))
			if s == "jalr x5, x0, 0" {
				b.own() // it goes round for ever
				continue
			}
			b.finish()
			b.own()
		}
	}
}

// P17.1: what is squashed may have stopped the fetching, which goes on then.
func TestFetchesAgain(t *testing.T) {
	for _, s := range []string{"halt", "ecall", ".word 0"} {
		b := begin(t, "beq x0, x0, 12\nnop\n"+s+"\naddi x1, x0, 3\nhalt", api.Hart{})
		b.bring(3)
		b.idle(fetch)
		b.at(execute, 1)
		b.at(execute, 0)
		b.can(fetch, 0)
		b.finish()
		b.x(1, 3)
		b.own()
	}
}

// P17.1, P17.3: instructions that are squashed time and again leave their registers as they were, and never run out of cells.
func TestClaimsUndone(t *testing.T) {
	const program = "addi x1, x1, 1\nxori x2, x2, 1\naddi x3, x3, 1\nbne x2, x0, 16\naddi x4, x4, 1\nadd x5, x5, x4\njal x0, -24\nadd x6, x6, x3\njal x0, -32"
	for _, oldest := range []bool{true, false} {
		b := begin(t, program, api.Hart{})
		for range 100 { // the branch goes the other way each time, so that it is never thought to go as it does
			b.bring(12)
			for len(b.Choices(execute)) > 0 {
				l := b.Choices(execute)
				if oldest {
					b.at(execute, l[0])
				} else {
					b.at(execute, l[len(l)-1])
				}
			}
			if n := len(b.Flight()); n < 4 || n > 7 {
				t.Fatal(n, "are left in flight")
			}
			b.rush(commit)
			b.flies()
		}
		if b.Hart().X[1] != 100 {
			t.Error(b.Hart())
		}
		b.own()
	}
}

// P17.1: how branches and jumps went is learnt as they retire, not ahead of it.
func TestTrained(t *testing.T) {
	b := begin(t, "addi x1, x1, -1\nbne x1, x0, -4\nhalt", api.Hart{X: [32]uint64{1: 3}})
	b.bring(3)
	b.play(execute, execute)
	b.flies(0, 3)
	b.bring(3)
	if l := b.Flight(); l[4].Op != api.EBREAK {
		t.Error("nothing was learnt yet", l[4].Op)
	}
	b.play(commit, commit, execute, execute)
	b.flies(9, 12)
	b.play(commit, commit)
	b.bring(3)
	if l := b.Flight(); l[2].Op != api.ADDI {
		t.Error("it went back twice", l[2].Op)
	}
	b.finish()
	b.x(1, 0)
	b.own()
	b = begin(t, "jalr x1, x0, 16\n.org 16\njal x0, -16", api.Hart{})
	b.bring(2)
	if l := b.Flight(); l[1].Op != 0 {
		t.Error("without a target it is thought to go on behind itself", l)
	}
	b.at(execute, 0)
	b.play(commit)
	b.bring(3)
	if l := b.Flight(); l[0].Op != api.JAL || l[1].Op != api.JALR || l[2].Op != api.JAL {
		t.Error(l)
	}
}

// P17.1: a branch that was executed and is squashed isn't learnt of.
func TestSquashedUntrained(t *testing.T) {
	b := begin(t, "beq x0, x0, 16\nbeq x0, x0, 8\nnop\nnop\njal x0, -12", api.Hart{})
	b.bring(2)
	b.at(execute, 1)
	b.at(execute, 0)
	b.play(commit)
	b.play(fetch, fetch, fetch)
	if l := b.Flight(); l[0].Op != api.JAL || l[1].Op != api.BEQ || l[2].Op != api.ADDI {
		t.Error(l)
	}
	b.at(execute, 0)
	b.play(commit)
	if h := b.Hart(); h.PC != 4 {
		t.Error(h)
	}
	b.own()
}

// P17.4: register 0 as a source and as what is written.
func TestRegisterZero(t *testing.T) {
	b := begin(t, "addi x0, x0, 5\nadd x1, x0, x0\nlw x0, 64(x0)\namoadd.w x0, x2, (x3)\njal x0, 4\nlui x0, 4096\nlr.w x0, (x3)\nsc.w x0, x0, (x3)\nadd x4, x0, x2\nsw x0, 72(x0)\nhalt\n.org 64\n.word 9\n.word 8\n.word 7", api.Hart{X: [32]uint64{0: 77, 1: 1, 2: 2, 3: 68}})
	b.bring(11)
	if l := b.Flight(); !l[9].Ready || l[9].Data != 0 {
		t.Error("x0 is ready", l[9])
	}
	b.can(execute, 0, 1, 4, 5, 8)
	b.finish()
	for _, r := range b.Retired() {
		if r.Done.Inst.Rd == 0 && r.Done.Val != 0 {
			t.Error(r)
		}
	}
	if h := b.Hart(); h.X[0] != 0 || h.X[1] != 0 || h.X[4] != 2 || b.m.Bytes()[68] != 0 || b.m.Bytes()[72] != 0 {
		t.Error(h)
	}
	b.own()
}

// P17.4: registers that several in flight write are told apart, in whatever order they are done.
func TestSeveralWrite(t *testing.T) {
	const program = "addi x1, x0, 1\nadd x2, x1, x1\nlui x1, 4096\nadd x3, x1, x2\naddi x1, x1, 1\nadd x4, x1, x3\nadd x1, x1, x1\nhalt"
	for _, order := range [][]int{{0, 1, 2, 3, 4, 5, 6}, {2, 4, 6, 0, 1, 3, 5}, {2, 0, 4, 1, 6, 3, 5}, {0, 2, 4, 6, 1, 3, 5}} {
		b := begin(t, program, api.Hart{X: [32]uint64{1: 99, 2: 99}})
		b.bring(8)
		for _, at := range order {
			b.at(execute, at)
		}
		b.x(1, 99)
		b.play(commit)
		b.x(1, 1)
		b.x(2, 99)
		b.play(commit, commit)
		b.x(1, 4096)
		b.x(2, 2)
		b.finish()
		if h := b.Hart(); h.X[1] != 8194 || h.X[2] != 2 || h.X[3] != 4098 || h.X[4] != 8195 {
			t.Error(order, h)
		}
		b.own()
	}
}
