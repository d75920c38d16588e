package core_test

import (
	"slices"
	"testing"

	"undertow/api"
	"undertow/moment"
)

// P17.1, P17.3: an entry's stores reach memory one behind the other, in one step; their moments are that step's, and nobody else's.
func TestDrain(t *testing.T) {
	b := begin(t, "sw x1, 64(x0)\nsb x2, 72(x0)\nnop\nsh x2, 66(x0)\nsb x3, 80(x0)\nlw x4, 88(x0)\nhalt", api.Hart{X: [32]uint64{1: 0x0a0b_0c0d, 2: 0x1e1f, 3: 0x2a}})
	b.bring(7)
	b.rush(address, execute, load, commit)
	b.can(drain, 0, 1, 2)
	for _, c := range []struct {
		place int
		drain []int // the places in what retired whose stores that drains
		log   []api.Write
	}{
		{0, []int{0, 3}, []api.Write{{Id: 0, Addr: 64, Size: 4, Data: 0x0a0b_0c0d}, {Id: 9, Addr: 66, Size: 2, Data: 0x1e1f}}},
		{1, []int{4}, []api.Write{{Id: 12, Addr: 80, Size: 1, Data: 0x2a}}},
		{0, []int{1}, []api.Write{{Id: 3, Addr: 72, Size: 1, Data: 0x1f}}},
	} {
		was, log := b.Retired(), b.m.Log()
		b.step += 10
		at := b.at(drain, c.place)
		for _, k := range c.drain {
			if was[k].Moment != moment.Later() {
				t.Error("it was later", was[k])
			}
			was[k].Moment = float64(at)
		}
		if l := b.Retired(); !slices.EqualFunc(l, was, same) {
			t.Error(l, was)
		}
		if l := b.m.Log(); !slices.Equal(l, append(log, c.log...)) {
			t.Error(l, c.log)
		}
	}
	if !b.Quiet() || b.m.Bytes()[64] != 0x0d || b.m.Bytes()[66] != 0x1f || b.m.Bytes()[67] != 0x1e || b.m.Bytes()[80] != 0x2a {
		t.Error(b.m.Bytes())
	}
	b.own()
}

// P17.1: entries of one block, which overlap, go in their order; of several epochs only the eldest's may go.
func TestDrainOrder(t *testing.T) {
	b := begin(t, "sw x1, 64(x0)\nsw x1, 72(x0)\nfence w, w\nsw x2, 64(x0)\nfence.tso\nsw x3, 80(x0)\nhalt", api.Hart{X: [32]uint64{1: 1, 2: 2, 3: 3}})
	b.bring(7)
	b.rush(address, commit)
	if l := b.Stores(); len(l) != 4 {
		t.Fatal(l)
	}
	for _, first := range [][]int{{0, 1}, {0}, {0}, {0}} {
		b.can(drain, first...)
		for _, k := range []int{len(first), 3, 4, -1} {
			if b.Do(drain, k, b.m, b.step) {
				t.Error("drained", k)
			}
		}
		b.at(drain, first[len(first)-1])
	}
	b.idle(drain)
	var order []int
	for _, w := range b.m.Log() {
		order = append(order, w.Id)
	}
	if !slices.Equal(order, []int{3, 0, 9, 15}) || b.m.Bytes()[64] != 2 {
		t.Error(order)
	}
	b.own()
}

// P17.3: stores in the buffer are told entry by entry, till they are drained.
func TestStores(t *testing.T) {
	b := begin(t, "sd x1, 64(x0)\nsb x2, 72(x0)\nsb x2, 65(x0)\nhalt", api.Hart{X: [32]uint64{1: 1 << 63, 2: 0x1f2}})
	b.bring(4)
	b.rush(address)
	want := [][]api.Write{{{Id: 0, Addr: 64, Size: 8, Data: 1 << 63}, {Id: 6, Addr: 65, Size: 1, Data: 0xf2}}, {{Id: 3, Addr: 72, Size: 1, Data: 0xf2}}}
	is := func(want ...[]api.Write) {
		t.Helper()
		if l := b.Stores(); !slices.EqualFunc(l, want, slices.Equal[[]api.Write]) {
			t.Error(l, want)
		}
	}
	is()
	b.play(commit)
	is(want[0][:1])
	b.play(commit)
	is(want[0][:1], want[1])
	b.play(commit)
	is(want...)
	b.at(drain, 0)
	is(want[1])
	b.at(drain, 0)
	is()
}

// P17.1: a core goes on while its buffer drains, and a load behind finds what has gone in memory.
func TestDrainBetween(t *testing.T) {
	b := begin(t, "sw x1, 64(x0)\nlw x2, 64(x0)\nlw x3, 64(x0)\nhalt", api.Hart{X: [32]uint64{1: 7}})
	b.bring(4)
	b.play(address, address, address, commit, load, drain)
	b.other(api.Write{Id: 1, Addr: 64, Size: 4, Data: 8})
	b.play(load)
	b.flies(3, 6, 9)
	b.finish()
	b.x(2, 7)
	b.x(3, 8)
	b.own()
}
