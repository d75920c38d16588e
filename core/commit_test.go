package core_test

import (
	"fmt"
	"slices"
	"strings"
	"testing"

	"undertow/api"
	"undertow/encode"
	"undertow/moment"
	"undertow/ops"
	"undertow/seq"
)

// waits holds that the oldest instruction may not retire, that it may once some units are done, and that it then does.
func (b *bench) waits(lets ...int) {
	b.t.Helper()
	b.idle(commit)
	n := len(b.Retired())
	b.play(lets...)
	b.can(commit, 0)
	b.play(commit)
	if len(b.Retired()) != n+1 {
		b.t.Error("it hasn't retired")
	}
}

// P17.1: nothing retires where nothing is in flight.
func TestCommitNone(t *testing.T) {
	b := begin(t, "nop\nhalt", api.Hart{})
	b.idle(commit)
	b.bring(1)
	b.waits(execute)
	b.idle(commit)
}

// P17.1: what works on registers alone retires once it is executed.
func TestCommitExecuted(t *testing.T) {
	for _, s := range []string{"lui x1, 4096", "auipc x1, 0", "jal x1, 8", "jalr x1, x0, 8", "beq x0, x1, 8", "bge x0, x1, 8", "addi x1, x0, 1", "srliw x1, x1, 1", "sltu x1, x1, x1"} {
		b := begin(t, s+"\nnop\nhalt", api.Hart{})
		b.bring(2)
		b.waits(execute)
		b.finish()
		b.own()
	}
}

// P17.1: a load retires once it is bound.
func TestCommitLoad(t *testing.T) {
	b := begin(t, "lw x1, 64(x0)\nhalt", api.Hart{})
	b.bring(2)
	b.idle(commit)
	b.play(address)
	b.waits(load)
}

// P17.1: a store retires once it is known and ready, and there is room for it.
func TestCommitStore(t *testing.T) {
	b := begin(t, "addi x1, x0, 1\nsw x1, 64(x0)\nhalt", api.Hart{})
	b.bring(3)
	b.play(execute, commit)
	if s := b.Flight()[0]; s.Known || !s.Ready {
		t.Error("known", s)
	}
	b.waits(address)
	b = begin(t, "lw x1, 64(x0)\nsw x1, 72(x0)\nhalt", api.Hart{}) // ahead of it is what it waits for
	b.bring(3)
	b.at(address, 1)
	if s := b.Flight()[1]; !s.Known || s.Ready {
		t.Error("ready", s)
	}
	b.idle(commit)
	b.play(address, load, commit)
	b.can(commit, 0)
}

// P17.1: with as many entries as the buffer has, or stores as an entry has, one more waits; of one of those entries it doesn't.
func TestCommitFull(t *testing.T) {
	entries := "sb x1, 64(x0)\nsb x1, 72(x0)\nsb x1, 80(x0)\nsb x1, 88(x0)\n"
	b := begin(t, entries+"sb x1, 96(x0)\nhalt", api.Hart{})
	b.bring(6)
	b.rush(address)
	b.play(commit, commit, commit, commit)
	b.waits(drain)
	b.finish()
	b.own()
	b = begin(t, entries+"sb x1, 95(x0)\nhalt", api.Hart{})
	b.bring(6)
	b.rush(address)
	b.play(commit, commit, commit, commit, commit)
	b.finish()
	b.own()
	b = begin(t, strings.Repeat("sb x1, 64(x0)\n", 9)+"halt", api.Hart{})
	b.bring(10)
	b.rush(address)
	b.play(slices.Repeat([]int{commit}, 8)...)
	b.waits(drain)
	b.finish()
	b.own()
}

// P17.1, P17.4: what is told of a store, and what of it comes to the buffer.
func TestStored(t *testing.T) {
	for s, wrote := range map[string]uint64{"sb x1, 66(x2)": 0x81, "sh x1, 66(x2)": 0x8781, "sw x1, 68(x2)": 0x8585_8781, "sd x1, 72(x2)": 0xf1f2_8383_8585_8781} {
		b := begin(t, "nop\n"+s+"\nhalt", api.Hart{X: [32]uint64{1: 0xf1f2_8383_8585_8781}})
		b.bring(3)
		b.play(execute, commit, address, commit)
		i, _ := seq.Fetch(b.img, 4)
		want := api.Retired{Done: api.Done{PC: 4, Inst: i, Addr: uint64(i.Imm), Wrote: wrote}, Id: 3, Moment: moment.Later(), Tags: tags(), Pair: -1}
		b.told(want)
		w := api.Write{Id: 3, Addr: int(i.Imm), Size: ops.Size(i.Op), Data: wrote}
		if l := b.Stores(); len(l) != 1 || !slices.Equal(l[0], []api.Write{w}) || len(b.m.Log()) != 0 {
			t.Error(s, l)
		}
		want.Moment = float64(b.at(drain, 0))
		b.told(want)
		if l := b.m.Log(); !slices.Equal(l, []api.Write{w}) {
			t.Error(s, l)
		}
		b.finish()
		b.own()
	}
}

// fences are all of them, with any Pred and Succ.
func fences() map[string]api.Inst {
	l := map[string]api.Inst{"fence.tso": {Op: api.TSO, Pred: 3, Succ: 3}}
	for pred := range 16 {
		for succ := range 16 {
			i := api.Inst{Op: api.FENCE, Pred: pred, Succ: succ}
			w, e := encode.Encode(i)
			if e != api.OK {
				panic(e)
			}
			l[fmt.Sprintf(".word %d", w)] = i
		}
	}
	return l
}

// P17.1: which fences wait for an empty buffer, and what is told of them.
func TestFenceWaits(t *testing.T) {
	for s, i := range fences() {
		b := begin(t, "sw x1, 64(x0)\n"+s+"\nlw x2, 72(x0)\nhalt", api.Hart{})
		b.bring(4)
		b.play(address, address, commit)
		if i.Op == api.FENCE && i.Pred&1 != 0 && i.Succ&2 != 0 {
			b.waits(drain)
		} else {
			b.can(commit, 0)
			b.play(commit)
		}
		b.told(plain(3, api.Done{PC: 4, Inst: i}))
		b.finish()
		b.own()
		b = begin(t, s+"\nhalt", api.Hart{})
		b.bring(2)
		b.can(commit, 0)
		b.idle(execute, address, load, drain)
		b.play(commit, commit)
		b.own()
	}
}

// P17.1: which fences bring a barrier: stores of one block stand in two entries then, the elder one ahead.
func TestBarrier(t *testing.T) {
	for s, i := range fences() {
		b := begin(t, "sw x1, 64(x0)\n"+s+"\nsw x1, 68(x0)\nsw x1, 72(x0)\nhalt", api.Hart{})
		b.bring(5)
		b.play(address, address, address, commit)
		wait := i.Op == api.FENCE && i.Pred&1 != 0 && i.Succ&2 != 0
		if wait {
			b.idle(commit)
			b.play(drain)
		}
		b.play(commit, commit, commit)
		n, first := 2, 2 // entries, and those that may go
		if i.Op == api.TSO || i.Pred&1 != 0 && i.Succ&1 != 0 {
			n, first = 3, 1
		}
		if wait {
			n, first = 2, 2
		}
		if l := b.Stores(); len(l) != n || len(b.Choices(drain)) != first {
			t.Error(i, l, b.Choices(drain))
		}
		b.finish()
		b.own()
	}
}

// P17.1: a barrier of an empty buffer keeps nothing.
func TestBarrierEmpty(t *testing.T) {
	for _, s := range []string{"fence w, w", "fence rw, rw", "fence.tso"} {
		b := begin(t, s+"\namoadd.w x1, x2, (x3)\nsw x1, 64(x0)\n"+s+"\nhalt", api.Hart{X: [32]uint64{3: 80}})
		b.bring(5)
		b.play(address, address, commit)
		b.can(commit, 0)
		b.finish()
		b.own()
	}
}
