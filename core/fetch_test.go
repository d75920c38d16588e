package core_test

import (
	"math"
	"slices"
	"strings"
	"testing"

	"undertow/api"
	"undertow/core"
	"undertow/seq"
)

// P17.1: instructions are fetched till Rob are in flight, and again when there is room.
func TestRob(t *testing.T) {
	b := begin(t, strings.Repeat("addi x1, x1, 1\n", 14)+"halt", api.Hart{})
	if core.Rob != 12 {
		t.Error(core.Rob)
	}
	for n := range core.Rob {
		b.can(fetch, 0)
		if len(b.Flight()) != n {
			t.Error(n, b.Flight())
		}
		b.play(fetch)
	}
	b.idle(fetch)
	b.play(execute)
	b.idle(fetch)
	b.play(commit)
	b.can(fetch, 0)
	b.play(fetch)
	b.idle(fetch)
	b.flies(3, 6, 9, 12, 15, 18, 21, 24, 27, 30, 33, 36)
	b.finish()
	b.x(1, 14)
	b.own()
}

// P17.3: how an instruction stands in flight, as it comes into it.
func TestSlots(t *testing.T) {
	for s, want := range map[string]api.Slot{
		"lui x1, 8192":             {Op: api.LUI},
		"jal x1, 8":                {Op: api.JAL},
		"jalr x1, x1, 0":           {Op: api.JALR},
		"bne x1, x2, 8":            {Op: api.BNE},
		"lb x1, 1(x2)":             {Op: api.LB},
		"sd x1, 64(x2)":            {Op: api.SD, Ready: true, Data: 0x1122_3344_5566_7788},
		"sw x1, 64(x2)":            {Op: api.SW, Ready: true, Data: 0x5566_7788},
		"sh x1, 64(x2)":            {Op: api.SH, Ready: true, Data: 0x7788},
		"sb x1, 64(x2)":            {Op: api.SB, Ready: true, Data: 0x88},
		"sd x0, 64(x2)":            {Op: api.SD, Ready: true},
		"addi x1, x1, 3":           {Op: api.ADDI},
		"add x1, x1, x1":           {Op: api.ADD},
		"fence r, w":               {Op: api.FENCE, Pred: 2, Succ: 1},
		"fence iorw, rw":           {Op: api.FENCE, Pred: 15, Succ: 3},
		"fence.tso":                {Op: api.TSO, Pred: 3, Succ: 3},
		"ecall":                    {Op: api.ECALL},
		"ebreak":                   {Op: api.EBREAK},
		"lr.w x1, (x2)":            {Op: api.LRW},
		"lr.d.aq x1, (x2)":         {Op: api.LRD, Aq: true},
		"sc.w x1, x1, (x2)":        {Op: api.SCW, Ready: true},
		"sc.d.aqrl x1, x1, (x2)":   {Op: api.SCD, Ready: true, Aq: true},
		"amoadd.d x1, x1, (x2)":    {Op: api.AMOADDD, Ready: true},
		"amomin.w.rl x1, x1, (x2)": {Op: api.MINW, Ready: true},
		".word 0":                  {},
	} {
		b := begin(t, s, api.Hart{X: [32]uint64{1: 0x1122_3344_5566_7788, 2: 64}})
		b.play(fetch)
		want.Tags = tags()
		if l := b.Flight(); len(l) != 1 || l[0] != want {
			t.Errorf("%s: %+v, not %+v", s, l, want)
		}
	}
}

// P17.3: an address is known when it was reckoned, and what is stored ready when its register is.
func TestSlotTurns(t *testing.T) {
	for s, op := range map[string]int{"sh x1, 2(x2)": api.SH, "sc.d x3, x1, (x2)": api.SCD, "amoor.d x3, x1, (x2)": api.AMOORD} {
		b := begin(t, "addi x1, x0, -2\naddi x2, x0, 72\n"+s+"\nhalt", api.Hart{})
		b.bring(4)
		want := api.Slot{Op: op, Id: 6, Tags: tags()}
		look := func() {
			t.Helper()
			if got := b.Flight()[2]; got != want {
				t.Errorf("%s: %+v, not %+v", s, got, want)
			}
		}
		look()
		b.at(execute, 1)
		look()
		b.at(address, 2)
		want.Known, want.Addr = true, 72
		if op == api.SH {
			want.Addr = 74
		}
		look()
		b.at(execute, 0)
		want.Ready = true
		if op == api.SH {
			want.Data = 0xfffe
		}
		look()
		b.finish()
		b.own()
	}
}

// P17.3: an address that may not be isn't known; what is stored may be ready all the same.
func TestSlotNone(t *testing.T) {
	for _, to := range []uint64{66, size, math.MaxUint64 - 3} {
		b := begin(t, "sw x1, 0(x2)\nlw x1, 0(x2)\nhalt", api.Hart{X: [32]uint64{1: 5, 2: to}})
		b.play(fetch, fetch, address, address)
		want := []api.Slot{{Op: api.SW, Ready: true, Data: 5, Tags: tags()}, {Op: api.LW, Id: 3, Tags: tags()}}
		if l := b.Flight(); !slices.Equal(l, want) {
			t.Error(to, l)
		}
	}
}

// P17.1, P17.4: where there is no instruction, or a word that is none, nothing more is fetched, and the hart halts.
func TestNoInstruction(t *testing.T) {
	img := make([]byte, 126)
	copy(img[4:], []byte{0x73, 0, 0x10, 0})
	for pc, cause := range map[uint64]int{
		1: api.CauseFetch, 2: api.CauseFetch, 3: api.CauseFetch, 5: api.CauseFetch, 6: api.CauseFetch,
		123: api.CauseFetch, 124: api.CauseFetch, 126: api.CauseFetch, 128: api.CauseFetch, 1 << 32: api.CauseFetch, 1<<32 + 4: api.CauseFetch, 1<<63 + 4: api.CauseFetch, math.MaxUint64 - 3: api.CauseFetch, math.MaxUint64: api.CauseFetch,
		0: api.CauseIllegal, 8: api.CauseIllegal, 120: api.CauseIllegal,
	} {
		b := on(t, 1, api.Hart{PC: pc, X: [32]uint64{1: 4}}, img)
		b.play(fetch)
		if l := b.Flight(); len(l) != 1 || l[0] != (api.Slot{Id: 1, Tags: tags()}) {
			t.Error(pc, l)
		}
		b.idle(fetch, execute, address, load, drain)
		if b.Hart() != b.start || b.Quiet() {
			t.Error(pc, b.Hart())
		}
		b.play(commit)
		b.told(plain(1, api.Done{PC: pc, Cause: cause}))
		if h := b.Hart(); h.PC != pc || h.Cause != cause || !b.Quiet() {
			t.Error(pc, h)
		}
		b.flies()
		b.idle(fetch, execute, address, load, commit, drain)
		b.own()
	}
}

// P17.1: the calls halt; nothing is fetched behind them.
func TestCalls(t *testing.T) {
	for s, cause := range map[string]int{"ecall": api.CauseCall, "ebreak": api.CauseBreak} {
		b := begin(t, "nop\n"+s+"\nnop", api.Hart{PC: 4})
		b.play(fetch)
		b.idle(fetch, execute, address, load, drain)
		i, _ := seq.Fetch(b.img, 4)
		b.play(commit)
		b.told(plain(0, api.Done{PC: 4, Inst: i, Cause: cause}))
		if h := b.Hart(); h.PC != 4 || h.Cause != cause || i.Op == 0 {
			t.Error(s, h)
		}
		b.idle(fetch, commit)
		b.own()
	}
}

// P17.1: what has a cause retires when all ahead of it has.
func TestCauseBehind(t *testing.T) {
	for s, cause := range map[string]int{"ecall": api.CauseCall, ".word 0": api.CauseIllegal, ".org 128": api.CauseFetch, "lw x3, 66(x0)": api.CauseAlign, "sd x3, 128(x0)": api.CauseRange} {
		source := "addi x1, x0, 7\nlw x2, 64(x0)\n" + s + "\nhalt"
		h := api.Hart{}
		if s == ".org 128" {
			source, h.PC = ".org 120\naddi x1, x0, 7\nlw x2, 64(x0)", 120
		}
		b := begin(t, source, h)
		b.bring(3)
		if cause >= api.CauseAlign {
			b.at(address, 2)
		}
		b.idle(commit)
		b.play(execute, commit)
		b.idle(commit)
		b.at(address, 0)
		b.idle(commit)
		b.at(load, 0)
		b.play(commit)
		if h := b.Hart(); h.Cause != 0 || h.PC != b.start.PC+8 {
			t.Error(s, h)
		}
		b.play(commit)
		if h := b.Hart(); h.Cause != cause || h.PC != b.start.PC+8 || len(b.Retired()) != 3 || h.X[1] != 7 {
			t.Error(s, h)
		}
		b.own()
	}
}

// P17.1: with a cause all that is in flight behind goes, whatever was done of it already, and its claims are undone.
func TestCauseAhead(t *testing.T) {
	b := begin(t, "lw x1, 2(x0)\naddi x2, x0, 9\nlw x3, 64(x0)\nsw x2, 64(x0)\nbeq x0, x0, -16\nhalt", api.Hart{X: [32]uint64{1: 1, 2: 2, 3: 3}})
	b.bring(6)
	b.at(execute, 1)
	b.at(address, 2)
	b.at(load, 2)
	b.at(address, 3)
	b.at(address, 0)
	b.at(execute, 4)
	b.bring(1)
	b.play(commit)
	b.told(plain(0, api.Done{Inst: api.Inst{Op: api.LW, Rd: 1, Imm: 2}, Cause: api.CauseAlign, Addr: 2}))
	b.flies()
	b.idle(fetch, execute, address, load, commit, drain)
	if b.Hart() != (api.Hart{X: [32]uint64{1: 1, 2: 2, 3: 3}, Cause: api.CauseAlign}) || !b.Quiet() || len(b.Stores()) != 0 {
		t.Error(b.Hart())
	}
	b.own()
}

// P17.3: a hart that has halted is quiet once its buffer is empty.
func TestQuiet(t *testing.T) {
	b := begin(t, "sw x1, 64(x0)\nhalt", api.Hart{})
	b.bring(2)
	b.play(address, commit)
	if b.Quiet() {
		t.Error("it runs")
	}
	b.play(commit)
	if b.Quiet() || b.Hart().Cause != api.CauseBreak {
		t.Error("it has a store")
	}
	b.idle(fetch, execute, address, load, commit)
	b.can(drain, 0)
	b.play(drain)
	if !b.Quiet() {
		t.Error("it has nothing")
	}
	b = begin(t, "sw x1, 64(x0)\nhalt", api.Hart{})
	b.bring(2)
	b.play(address, commit, drain)
	if b.Quiet() {
		t.Error("it runs, with an empty buffer")
	}
}
