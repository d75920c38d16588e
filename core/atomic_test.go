package core_test

import (
	"fmt"
	"math"
	"slices"
	"strings"
	"testing"

	"undertow/api"
	"undertow/core"
	"undertow/ops"
	"undertow/seq"
)

// touches are instructions of the sorts that go to memory as they retire, of the place in x4.
var touches = []string{"lr.w x3, (x4)", "lr.d x3, (x4)", "sc.w x3, x1, (x4)", "sc.d x3, x1, (x4)", "amoswap.w x3, x1, (x4)", "amominu.d x3, x1, (x4)"}

// isReserve says whether a text is of that sort.
func isReserve(s string) bool { return strings.HasPrefix(s, "lr.") }

// P17.1: what goes to memory as it retires does so once it is known, and ready, if it stores; it needn't be executed or loaded.
func TestTouchKnown(t *testing.T) {
	for _, s := range touches {
		b := begin(t, "addi x4, x0, 64\naddi x1, x0, 5\n"+s+"\nhalt", api.Hart{})
		b.bring(4)
		b.play(execute, execute, commit, commit)
		b.idle(execute, load)
		b.waits(address)
		b.finish()
		b.own()
		b = begin(t, "lw x1, 72(x0)\n"+s+"\nhalt", api.Hart{X: [32]uint64{4: 64}})
		b.bring(3)
		b.play(address, address)
		if l := b.Flight(); l[1].Ready {
			t.Error(s, l)
		}
		b.play(load, commit)
		b.can(commit, 0)
	}
}

// P17.1: it waits for stores in the buffer that overlap it, for no others.
func TestTouchOverlaps(t *testing.T) {
	for _, s := range touches {
		n := 4
		if strings.Contains(s, ".d ") {
			n = 8
		}
		for at := 56; at < 80; at++ {
			b := begin(t, fmt.Sprintf("sb x1, %d(x0)\n%s\nhalt", at, s), api.Hart{X: [32]uint64{4: 64}})
			b.bring(3)
			b.play(address, address, commit)
			if 64 <= at && at < 64+n {
				b.waits(drain)
			} else {
				b.can(commit, 0)
				b.play(commit)
			}
			b.finish()
			b.own()
		}
	}
}

// P17.1: one that releases waits for an empty buffer.
func TestTouchReleases(t *testing.T) {
	for _, s := range []string{"lr.w%s x3, (x4)", "lr.d%s x3, (x4)", "sc.w%s x3, x1, (x4)", "sc.d%s x3, x1, (x4)", "amoand.w%s x3, x1, (x4)", "amomax.d%s x3, x1, (x4)"} {
		for _, note := range []string{"", ".aq", ".rl", ".aqrl"} {
			b := begin(t, "sb x1, 88(x0)\nsb x1, 96(x0)\n"+fmt.Sprintf(s, note)+"\nlw x5, 80(x0)\nhalt", api.Hart{X: [32]uint64{4: 64}})
			b.bring(5)
			b.play(address, address, address, address, commit, commit)
			if aq := note == ".aq" || note == ".aqrl"; b.Flight()[0].Aq != aq || (len(b.Choices(load)) == 0) != aq {
				t.Error(s, note, b.Flight())
			}
			if note == ".rl" || note == ".aqrl" {
				b.idle(commit)
				b.play(drain)
				b.waits(drain)
			} else {
				b.can(commit, 0)
				b.play(commit)
			}
			b.can(load, 0)
			b.finish()
			b.own()
		}
	}
}

// P17.1: one that stores waits for stores ahead of a barrier; a Reserve doesn't.
func TestTouchElder(t *testing.T) {
	for _, s := range touches {
		b := begin(t, "sb x1, 88(x0)\nfence w, w\n"+s+"\nhalt", api.Hart{X: [32]uint64{4: 64}})
		b.bring(4)
		b.play(address, address, commit, commit)
		if isReserve(s) {
			b.can(commit, 0)
			b.play(commit)
		} else {
			b.waits(drain)
		}
		b.finish()
		b.own()
		b = begin(t, "sb x1, 88(x0)\nfence w, w\nsb x1, 96(x0)\n"+s+"\nhalt", api.Hart{X: [32]uint64{4: 64}})
		b.bring(5)
		b.play(address, address, address, commit, commit, commit)
		if isReserve(s) {
			b.can(commit, 0)
		} else {
			b.waits(drain) // the one behind the barrier needn't go
			if len(b.Stores()) != 1 {
				t.Error(s, b.Stores())
			}
		}
		b.finish()
		b.own()
	}
}

// P17.1, P17.4: each atomic one at both sizes and with each annotation: what it loads, what it stores, and what is told.
func TestAtomics(t *testing.T) {
	const old, with = -2, 3
	for name, now := range map[string]int64{"swap": 3, "add": 1, "xor": -3, "and": 2, "or": -1, "min": -2, "max": 3, "minu": 3, "maxu": -2} {
		for _, note := range []string{"", ".aq", ".rl", ".aqrl"} {
			for _, size := range []string{"w", "d"} {
				bits := map[string]int{"w": 32, "d": 64}[size]
				low := uint64(math.MaxUint64) >> (64 - bits)
				b := begin(t, fmt.Sprintf("nop\namo%s.%s%s x3, x1, (x4)\nhalt\n.org 72\n.dword %d", name, size, note, old), api.Hart{X: [32]uint64{1: with | ^low, 4: 72}})
				b.bring(3)
				b.play(execute, commit, address)
				b.step = 50
				b.play(commit)
				i, _ := seq.Fetch(b.img, 4)
				d := api.Done{PC: 4, Inst: i, Addr: 72, Read: (math.MaxUint64 - 1) & low, Wrote: uint64(now) & low, Val: math.MaxUint64 - 1}
				b.told(api.Retired{Done: d, Id: 3, Moment: 50, Tags: tags(), Pair: -1})
				if l := b.m.Log(); !slices.Equal(l, []api.Write{{Id: 3, Addr: 72, Size: bits / 8, Data: uint64(now) & low}}) || len(b.Stores()) != 0 {
					t.Error(name, l)
				}
				b.finish()
				b.own()
			}
		}
	}
}

// P17.3, P17.4: a Reserve and an Atomic tell whose their bytes are.
func TestTouchTags(t *testing.T) {
	b := begin(t, "lr.d x1, (x4)\namoadd.w x2, x4, (x4)\nlr.d x3, (x4)\nhalt", api.Hart{X: [32]uint64{4: 72}})
	b.other(api.Write{Id: 7, Addr: 74, Size: 1, Data: 0xff})
	b.bring(4)
	b.play(address, address, address, commit, commit, commit)
	l := b.Retired()
	if l[0].Tags != tags(-1, -1, 7) || l[1].Tags != tags(-1, -1, 7, -1) || l[2].Tags != tags(3, 3, 3, 3) || l[2].Done.Read != 0xff_0048 || l[0].Moment != 7 {
		t.Error(l)
	}
	b.finish()
	b.own()
}

// P17.3, P17.4: a Conditional that the hart holds the place for stores, and is told with its Reserve; its Val is 0.
func TestPair(t *testing.T) {
	for size, bytes := range map[string]int{"w": 4, "d": 8} {
		b := begin(t, fmt.Sprintf("nop\nlr.%s x1, (x4)\nsw x5, 80(x0)\nsc.%s x2, x3, (x4)\nhalt\n.org 64\n.dword -5", size, size), api.Hart{X: [32]uint64{2: 9, 3: 0x1_2345_6789, 4: 64}})
		b.bring(5)
		b.rush(execute, address)
		b.play(commit, commit)
		b.told(api.Retired{Done: api.Done{PC: 4, Inst: inst(b, 4), Addr: 64, Read: low(math.MaxUint64-4, bytes), Val: math.MaxUint64 - 4}, Id: 3, Moment: float64(b.step - 1), Tags: tags(), Pair: -1})
		if !b.m.Held(0, 64, bytes) {
			t.Error("it isn't reserved")
		}
		b.play(commit, commit)
		b.told(api.Retired{Done: api.Done{PC: 12, Inst: inst(b, 12), Addr: 64, Wrote: low(0x1_2345_6789, bytes)}, Id: 9, Moment: float64(b.step - 1), Tags: tags(), Pair: 3})
		if b.m.Held(0, 64, bytes) || len(b.m.Log()) != 1 {
			t.Error("it is reserved still")
		}
		b.x(2, 0)
		b.finish()
		b.own()
	}
}

// inst is the instruction at a place.
func inst(b *bench, pc uint64) api.Inst {
	i, _ := seq.Fetch(b.img, pc)
	return i
}

// low are a word's low bytes.
func low(x uint64, bytes int) uint64 { return x << (64 - 8*bytes) >> (64 - 8*bytes) }

// P17.3, P17.4: Conditionals, which of them fail, and which Reserve the others are told with.
func TestConditionals(t *testing.T) {
	const fails = -1
	for s, pairs := range map[string][]int{ // of each Conditional
		"sc.w x1, x2, (x4)":                                                                {fails},
		"lr.w x1, (x4)\nsc.w x1, x2, (x4)":                                                 {0},
		"lr.w x1, (x4)\nsc.w x1, x2, (x4)\nsc.w x3, x2, (x4)":                              {0, fails},
		"lr.w x1, (x4)\nlr.w x3, (x4)\nsc.w x1, x2, (x4)":                                  {3},
		"lr.w x1, (x5)\nlr.w x3, (x4)\nsc.w x1, x2, (x4)":                                  {3},
		"lr.w x1, (x4)\nlr.w x3, (x5)\nsc.w x1, x2, (x4)":                                  {fails},
		"lr.w x1, (x4)\nsc.w x1, x2, (x5)\nsc.w x3, x2, (x4)":                              {fails, fails},
		"lr.w x1, (x4)\nsc.d x1, x2, (x4)":                                                 {fails},
		"lr.d x1, (x4)\nsc.w x1, x2, (x4)":                                                 {fails},
		"lr.d x1, (x4)\nsc.w x1, x2, (x5)":                                                 {fails},
		"lr.d x1, (x4)\nsc.d x1, x2, (x4)\nlr.d x1, (x4)\nsc.d x1, x2, (x4)":               {0, 6},
		"lr.w x1, (x4)\nsw x2, 0(x4)\nsc.w x1, x2, (x4)":                                   {0},
		"lr.w x1, (x4)\namoadd.w x1, x2, (x4)\nsc.w x1, x2, (x4)":                          {0},
		"lr.w x1, (x4)\naddi x4, x4, 8\nsc.w x1, x2, (x4)":                                 {fails},
		"sc.w x1, x2, (x4)\nlr.w x1, (x4)\nnop\nnop\nsc.w.rl x1, x2, (x4)":                 {fails, 3},
		"lr.w.aq x1, (x4)\nfence rw, rw\nsc.w.aqrl x0, x2, (x4)\nlr.d x0, (x4)\nfence.tso": {0},
	} {
		b := begin(t, s+"\nhalt", api.Hart{X: [32]uint64{2: 22, 4: 64, 5: 68}})
		b.finish()
		b.own()
		k := 0
		for _, r := range b.Retired() {
			if ops.Sort(r.Done.Inst.Op) != ops.Conditional {
				if r.Pair != -1 {
					t.Error(s, r)
				}
				continue
			}
			want := plain(r.Id, r.Done)
			if want.Pair = pairs[k]; want.Pair != fails {
				want.Moment = r.Moment
			}
			if !same(r, want) || r.Done.Failed != (pairs[k] == fails) || math.IsNaN(r.Moment) != r.Done.Failed || r.Done.Inst.Rd != 0 && (r.Done.Val == 1) != r.Done.Failed {
				t.Error(s, r)
			}
			k++
		}
		if k != len(pairs) {
			t.Error(s, k)
		}
	}
}

// P17.1, P17.3: another hart's store takes a pair apart, if it overlaps.
func TestTakenApart(t *testing.T) {
	for addr := 60; addr < 72; addr++ {
		b := begin(t, "lr.w x1, (x4)\nsc.w x2, x3, (x4)\nhalt", api.Hart{X: [32]uint64{3: 3, 4: 64}})
		b.bring(3)
		b.play(address, address, commit)
		b.other(api.Write{Id: 4, Addr: addr, Size: 1, Data: 9})
		b.play(commit)
		failed := 64 <= addr && addr < 68
		if r := b.last(); r.Done.Failed != failed || (r.Pair == -1) != failed || math.IsNaN(r.Moment) != failed || (r.Done.Wrote == 0) != failed || len(b.m.Log()) == 2 == failed {
			t.Error(addr, r)
		}
		b.finish()
		b.own()
	}
}

// P17.1: cores of one memory: what one stores takes the other's pair apart; reservations are each hart's own.
func TestThreeHarts(t *testing.T) {
	b := begin(t, "lr.w x1, (x4)\naddi x1, x1, 1\nsc.w x2, x1, (x4)\nbne x2, x0, -12\nhalt", api.Hart{X: [32]uint64{4: 64}})
	l := []*core.Core{b.Core, core.New(1, b.start, b.img), core.New(2, b.start, b.img)}
	for turn := range 3000 {
		c := l[(turn/7)%3]
		for unit := range api.Units {
			b.step++
			c.Do((unit+turn)%api.Units, 0, b.m, b.step)
		}
	}
	for n, c := range l {
		if !c.Quiet() {
			t.Error(n, "isn't quiet")
		}
		for _, r := range c.Retired() {
			if r.Id%api.Harts != n {
				t.Error(n, r)
			}
		}
	}
	if got := b.m.Bytes()[64]; got != 3 {
		t.Error("of three that add one", got, "are left")
	}
}

// P17.1: a hart that holds a place without a Reserve of its own that retired has no number to tell.
func TestHeldFromOutside(t *testing.T) {
	b := begin(t, "sc.w x2, x3, (x4)\nhalt", api.Hart{X: [32]uint64{3: 3, 4: 64}})
	b.m.Reserve(0, 64, 4)
	b.finish()
	if r := b.Retired()[0]; r.Done.Failed || r.Pair != -1 || r.Done.Wrote != 3 {
		t.Error(r)
	}
	b.own()
}
