package core_test

import (
	"fmt"
	"math"
	"slices"
	"strings"
	"testing"

	"undertow/api"
	"undertow/ops"
	"undertow/seq"
)

// other lets another hart write.
func (b *bench) other(w api.Write) {
	b.t.Helper()
	if !b.m.Store(1, w) {
		b.t.Fatal("no place", w)
	}
}

// bound holds which of what is in flight have their bytes.
func (b *bench) bound(places ...int) {
	b.t.Helper()
	var l []int
	for at, s := range b.Flight() {
		if s.Bound {
			l = append(l, at)
		}
	}
	if !slices.Equal(l, places) {
		b.t.Error("bound are", l, "not", places)
	}
}

// P17.1: an address is reckoned when rs1's cell is ready, of each sort that has memory, whether rs2's is or isn't, and once.
func TestReckoned(t *testing.T) {
	b := begin(t, "addi x1, x0, 64\naddi x2, x0, 5\nlw x3, 4(x1)\nsw x2, 8(x1)\nlr.w x4, (x1)\nsc.w x5, x2, (x1)\namoadd.w x6, x2, (x1)\nsd x2, 24(x0)\nfence rw, rw\nhalt", api.Hart{})
	b.bring(10)
	b.can(address, 7)
	b.at(execute, 1)
	b.can(address, 7)
	b.at(execute, 0)
	b.can(address, 2, 3, 4, 5, 6, 7)
	for at, want := range map[int]int{2: 68, 3: 72, 4: 64, 5: 64, 6: 64, 7: 24} {
		b.at(address, at)
		if s := b.Flight()[at]; !s.Known || s.Addr != want {
			t.Error(at, s)
		}
	}
	b.idle(address, execute)
	b.finish()
	b.own()
}

// P17.1, P17.3: an address that isn't aligned, and one beyond the memory: the hart halts there, and nothing is loaded or stored; the last places that may be are done.
func TestPlaces(t *testing.T) {
	for s, n := range map[string]uint64{
		"lb x1, 0(x2)": 1, "lhu x1, 0(x2)": 2, "lw x1, 0(x2)": 4, "ld x1, 0(x2)": 8,
		"sb x1, 0(x2)": 1, "sh x1, 0(x2)": 2, "sw x1, 0(x2)": 4, "sd x1, 0(x2)": 8,
		"lr.w x1, (x2)": 4, "lr.d x1, (x2)": 8, "sc.w x1, x3, (x2)": 4, "sc.d x1, x3, (x2)": 8,
		"amoadd.w x1, x3, (x2)": 4, "amomaxu.d x1, x3, (x2)": 8, "amoswap.d.aqrl x1, x3, (x2)": 8,
	} {
		for _, addr := range []uint64{0, 64, 65, 66, 68, size - 8, size - 4, size - 2, size - 1, size, size + 1, size + 8, 1024, 1 << 32, 1<<32 + 1, 1 << 40, 1 << 63, 1<<63 + 8, math.MaxUint64 - 7, math.MaxUint64 - 3, math.MaxUint64} {
			cause := api.Running
			if addr%n != 0 {
				cause = api.CauseAlign
			} else if addr > size-n {
				cause = api.CauseRange
			}
			b := begin(t, s+"\nhalt", api.Hart{X: [32]uint64{1: 1, 2: addr, 3: 3}})
			was := b.m.Bytes()
			b.play(fetch, fetch)
			b.at(address, 0)
			if known := b.Flight()[0].Known; known != (cause == 0) {
				t.Error(s, addr, known)
			}
			b.idle(address)
			if cause != 0 {
				b.idle(load, execute)
				b.can(commit, 0)
				i, _ := seq.Fetch(b.img, 0)
				b.play(commit)
				b.told(plain(0, api.Done{Inst: i, Cause: cause, Addr: addr}))
				if !b.Quiet() || len(b.m.Log()) != 0 || !slices.Equal(b.m.Bytes(), was) {
					t.Error(s, addr, "something was stored")
				}
			}
			b.finish()
			b.own()
		}
	}
}

// P17.1, P17.4: what each load loads, and what is told of it.
func TestLoads(t *testing.T) {
	for s, want := range map[string]api.Done{
		"lb x1, 65(x0)":   {Addr: 65, Read: 0x87, Val: math.MaxUint64 - 0x78},
		"lbu x1, 65(x0)":  {Addr: 65, Read: 0x87, Val: 0x87},
		"lb x1, 64(x0)":   {Addr: 64, Read: 0x65, Val: 0x65},
		"lh x1, 64(x0)":   {Addr: 64, Read: 0x8765, Val: math.MaxUint64 - 0x789a},
		"lhu x1, 64(x0)":  {Addr: 64, Read: 0x8765, Val: 0x8765},
		"lw x1, 64(x0)":   {Addr: 64, Read: 0xf432_8765, Val: math.MaxUint64 - 0x0bcd_789a},
		"lwu x1, 64(x0)":  {Addr: 64, Read: 0xf432_8765, Val: 0xf432_8765},
		"ld x1, 64(x0)":   {Addr: 64, Read: 0x8123_4567_f432_8765, Val: 0x8123_4567_f432_8765},
		"ld x0, 64(x0)":   {Addr: 64, Read: 0x8123_4567_f432_8765},
		"lw x1, 0(x1)":    {Addr: 80},
		"lb x1, -13(x1)":  {Addr: 67, Read: 0xf4, Val: math.MaxUint64 - 0x0b},
		"lb x1, -9(x1)":   {Addr: 71, Read: 0x81, Val: math.MaxUint64 - 0x7e},
		"lbu x1, -11(x1)": {Addr: 69, Read: 0x45, Val: 0x45},
	} {
		b := begin(t, s+"\nhalt\n.org 64\n.dword -9141386505851074715", api.Hart{X: [32]uint64{1: 80}})
		b.bring(2)
		b.idle(load, commit)
		b.at(address, 0)
		b.can(load, 0)
		b.idle(commit)
		b.step = 41
		b.at(load, 0)
		b.idle(load, address, execute)
		b.bound(0)
		b.can(commit, 0)
		b.step = 77
		b.at(commit, 0)
		want.Inst, _ = seq.Fetch(b.img, 0)
		b.told(api.Retired{Done: want, Moment: 41, Tags: tags(), Pair: -1})
		b.own()
	}
}

// P17.1: a load's bytes come from stores in flight, from the buffer and from the memory at once, each with its tag.
func TestSources(t *testing.T) {
	b := begin(t, "sh x1, 66(x0)\nsb x2, 64(x0)\nsw x3, 68(x0)\nsb x4, 69(x0)\nsh x5, 70(x0)\nld x6, 64(x0)\nlhu x7, 68(x0)\nhalt\n.org 64\n.dword 1234605616436508552", api.Hart{X: [32]uint64{1: 0xa1b1, 2: 0xa2, 3: 0xa3b3_c3d3, 4: 0xa4, 5: 0xa5b5}})
	b.bring(8)
	b.play(address, commit, drain, address, address, commit, commit, address, address, address, address)
	b.other(api.Write{Id: 40, Addr: 65, Size: 1, Data: 0x40})
	b.flies(9, 12, 15, 18, 21)
	b.can(load, 2, 3)
	b.at(load, 3)
	b.at(load, 2)
	if s := b.Flight()[2]; s.Tags != tags(3, 40, 0, 0, 6, 9, 12, 12) {
		t.Error(s)
	}
	if s := b.Flight()[3]; s.Tags != tags(6, 9) {
		t.Error(s)
	}
	b.finish()
	if r := b.Retired()[5]; r.Done.Read != 0xa5b5_a4d3_a1b1_40a2 || r.Tags != tags(3, 40, 0, 0, 6, 9, 12, 12) {
		t.Errorf("%x %v", r.Done.Read, r)
	}
	b.x(7, 0xa4d3)
	b.own()
}

// P17.1: of a buffer's stores of one byte the last one counts; of stores in flight the last one ahead of the load.
func TestLatest(t *testing.T) {
	b := begin(t, "sb x1, 64(x0)\nsb x2, 64(x0)\nlb x3, 64(x0)\nsb x3, 65(x0)\nsb x1, 65(x0)\nlb x4, 65(x0)\nsb x2, 65(x0)\nhalt", api.Hart{X: [32]uint64{1: 1, 2: 2}})
	b.bring(8)
	b.play(address, commit, address, commit, address, load)
	if s := b.Flight()[0]; s.Tags != tags(3) {
		t.Error(s)
	}
	b.rush(address)
	b.at(load, 3)
	if s := b.Flight()[3]; s.Tags != tags(12) {
		t.Error(s)
	}
	b.finish()
	b.x(3, 2)
	b.x(4, 1)
	b.own()
}

// P17.1: a store whose address is known late squashes from the first load on that went ahead and overlaps it, in all, some or none of its bytes.
func TestLate(t *testing.T) {
	for _, late := range []string{"sw x1, 0(x2)", "sc.w x3, x1, (x2)", "amoswap.w x3, x1, (x2)", "lr.w x3, (x2)"} {
		for _, c := range []struct {
			loads string
			ahead []int // which of the loads went ahead
			left  int   // how many are left in flight
		}{
			{"lw x4, 68(x0)\nlw x5, 72(x0)", []int{0, 1}, 2},
			{"lw x4, 72(x0)\nlw x5, 68(x0)", []int{0, 1}, 3},
			{"lw x4, 68(x0)\nlw x5, 68(x0)", []int{1}, 3},
			{"lw x4, 68(x0)\nlw x5, 68(x0)", nil, 5},
			{"lb x4, 67(x0)\nlb x5, 72(x0)", []int{0, 1}, 5},
			{"lb x4, 67(x0)\nlb x5, 68(x0)", []int{0, 1}, 3},
			{"lb x4, 71(x0)\nlb x5, 72(x0)", []int{0, 1}, 2},
			{"lh x4, 70(x0)\nlh x5, 68(x0)", []int{1, 0}, 2},
			{"ld x4, 64(x0)\nld x5, 72(x0)", []int{1, 0}, 2},
			{"ld x4, 72(x0)\nlw x5, 64(x0)", []int{1, 0}, 5},
			{"ld x4, 72(x0)\nld x5, 64(x0)", []int{1}, 3},
		} {
			b := begin(t, "addi x2, x0, 68\n"+late+"\n"+c.loads+"\nhalt\n.org 64\n.dword 11\n.dword 22", api.Hart{X: [32]uint64{1: 9}})
			b.bring(5)
			b.rush(address)
			for _, at := range c.ahead {
				b.at(load, 2+at)
			}
			b.at(execute, 0)
			b.at(address, 1)
			if n := len(b.Flight()); n != c.left {
				t.Error(late, c, n)
			}
			if c.left < 5 {
				b.can(fetch, 0)
				b.play(fetch)
				if l := b.Flight(); l[c.left].Id != 15 || l[c.left].Known || l[c.left].Bound || l[c.left].Tags != tags() {
					t.Error(late, c, l)
				}
			} else {
				b.idle(fetch)
			}
			b.finish()
			b.own()
		}
	}
}

// P17.1: a load whose address is known late squashes nothing, nor does a store whose address may not be.
func TestLateElse(t *testing.T) {
	for _, late := range []string{"lw x3, 0(x2)", "sw x1, 2(x2)", "amoadd.d x3, x1, (x2)", "sw x1, 1020(x2)"} {
		b := begin(t, "addi x2, x0, 68\n"+late+"\nlw x4, 68(x0)\nhalt", api.Hart{})
		b.bring(4)
		b.at(address, 2)
		b.at(load, 2)
		b.at(execute, 0)
		b.at(address, 1)
		b.flies(0, 3, 6, 9)
		b.bound(2)
		b.finish()
		b.own()
	}
}

// P17.1: each way in which a load waits, and what lets it go.
func TestWaits(t *testing.T) {
	for _, c := range []struct {
		ahead string
		done  []int // units that are done, the first choice of each, and the load can't be done behind them
		lets  []int // units behind which it can
	}{
		// None: it isn't known.
		{"", nil, []int{address}},
		// Acquire.
		{"lr.w.aq x3, (x4)", []int{address, address}, []int{commit}},
		{"amoadd.w.aqrl x3, x1, (x4)", []int{address, address}, []int{commit}},
		{"sc.d.aq x3, x1, (x4)", []int{address, address}, []int{commit}},
		{"amoadd.w.rl x3, x1, (x4)", []int{address}, []int{address}},
		// Fenced.
		{"fence r, r\nlw x3, 72(x0)", []int{address}, []int{address}},
		{"lw x3, 72(x0)\nfence r, r", []int{address, address}, []int{load}},
		{"lw x3, 72(x0)\nfence.tso", []int{address, address}, []int{load}},
		{"lr.w x3, (x4)\nfence r, r", []int{address, address}, []int{commit}},
		{"sw x3, 72(x0)\nfence w, r", []int{address, address, commit}, []int{drain}},
		{"sw x3, 72(x0)\nfence rw, rw", []int{address, address, commit}, []int{drain}},
		{"sw x3, 72(x0)\nfence r, r", []int{address}, []int{address}},
		{"sw x3, 72(x0)\nfence.tso", []int{address}, []int{address}},
		{"sw x3, 72(x0)\nfence w, w", []int{address}, []int{address}},
		{"lw x3, 72(x0)\nfence r, w", []int{address}, []int{address}},
		// Atomic.
		{"amoadd.w x3, x1, (x5)", []int{address, address}, []int{commit}},
		{"lr.d x3, (x5)", []int{address, address}, []int{commit}},
		{"sc.w x3, x1, (x5)", []int{address, address}, []int{commit}},
		// Data.
		{"addi x1, x0, 3\nsb x1, 67(x0)", []int{address, address}, []int{execute}},
		{"addi x1, x0, 3\nsw x1, 64(x0)\nsb x2, 66(x0)", []int{address, address, address}, []int{execute}},
		{"addi x1, x0, 3\nsb x1, 68(x0)", []int{address}, []int{address}},
		{"addi x1, x0, 3\nsb x1, 66(x0)\nsb x2, 66(x0)", []int{address, address}, []int{address}},
	} {
		b := begin(t, strings.TrimPrefix(c.ahead+"\nlw x6, 64(x0)\nhalt", "\n"), api.Hart{X: [32]uint64{4: 72, 5: 64}})
		b.rush(fetch)
		among := func() bool { // the load is the last one but the halt
			return slices.Contains(b.Choices(load), len(b.Flight())-2)
		}
		for _, unit := range c.done {
			if among() {
				t.Error(c, "it doesn't wait")
			}
			b.play(unit)
		}
		for _, unit := range c.lets {
			if among() {
				t.Error(c, "it doesn't wait")
			}
			b.play(unit)
		}
		if !among() {
			t.Error(c, "it waits", b.Flight())
		}
		b.at(load, len(b.Flight())-2)
		if among() {
			t.Error(c, "it is bound already")
		}
		b.finish()
		b.own()
	}
}

// P17.1: loads go ahead of all that keeps none of them, in any order.
func TestAhead(t *testing.T) {
	for _, order := range [][]int{{0, 1, 2}, {0, 2, 1}, {1, 0, 2}, {1, 2, 0}, {2, 0, 1}, {2, 1, 0}} {
		b := begin(t, "lw x1, 64(x0)\nlw x2, 68(x0)\nlw x3, 64(x0)\nhalt\n.org 64\n.word 5\n.word 6", api.Hart{})
		b.bring(4)
		b.rush(address)
		var at [3]int
		for _, k := range order {
			at[k] = b.at(load, k)
		}
		b.flies(0, 3, 6, 9)
		b.finish()
		for k, r := range b.Retired()[:3] {
			if r.Moment != float64(at[k]) {
				t.Error(order, r)
			}
		}
		b.own()
	}
}

// P17.1: two loads of one place that are done the wrong way round, another hart's store coming between: the later one is squashed, unless a store between them has its bytes, or the store was of others.
func TestReorder(t *testing.T) {
	for _, c := range []struct {
		program string
		later   []int // the loads that are done ahead of the other hart's store
		store   api.Write
		left    int
	}{
		{"lw x1, 64(x0)\nlw x2, 64(x0)\nhalt", []int{1}, api.Write{Addr: 64, Size: 4}, 1},
		{"lw x1, 64(x0)\nlw x2, 64(x0)\nhalt", []int{1}, api.Write{Addr: 67, Size: 1}, 1},
		{"lw x1, 64(x0)\nlw x2, 64(x0)\nhalt", []int{1}, api.Write{Addr: 68, Size: 4}, 3},
		{"ld x1, 64(x0)\nlb x2, 71(x0)\nhalt", []int{1}, api.Write{Addr: 71, Size: 1}, 1},
		{"ld x1, 64(x0)\nlb x2, 71(x0)\nhalt", []int{1}, api.Write{Addr: 70, Size: 1}, 3},
		{"lb x1, 64(x0)\nld x2, 64(x0)\nhalt", []int{1}, api.Write{Addr: 65, Size: 1}, 3},
		{"lw x1, 64(x0)\nlw x3, 68(x0)\nlw x2, 64(x0)\nhalt", []int{1, 2}, api.Write{Addr: 64, Size: 8}, 2},
		{"lw x1, 64(x0)\nlw x3, 64(x0)\nlw x2, 64(x0)\nhalt", []int{2, 1}, api.Write{Addr: 64, Size: 8}, 1},
		{"lw x1, 64(x0)\nlw x3, 64(x0)\nlw x2, 64(x0)\nhalt", []int{2}, api.Write{Addr: 64, Size: 8}, 2},
		{"lw x1, 64(x0)\nsw x3, 64(x0)\nlw x2, 64(x0)\nhalt", []int{2}, api.Write{Addr: 64, Size: 8}, 4},
		{"lw x1, 64(x0)\nsb x3, 64(x0)\nlw x2, 64(x0)\nhalt", []int{2}, api.Write{Addr: 64, Size: 1}, 4},
		{"lw x1, 64(x0)\nsb x3, 64(x0)\nlw x2, 64(x0)\nhalt", []int{2}, api.Write{Addr: 64, Size: 2}, 2},
	} {
		b := begin(t, c.program, api.Hart{X: [32]uint64{3: 3}})
		b.rush(fetch)
		b.rush(address)
		all := len(b.Flight())
		for _, at := range c.later {
			b.at(load, at)
		}
		c.store.Id, c.store.Data = 31, 0x0909_0909_0909_0909
		b.other(c.store)
		b.at(load, 0)
		if n := len(b.Flight()); n != c.left {
			t.Error(c, n)
		}
		if c.left == all {
			b.idle(fetch)
		} else {
			b.play(fetch)
			b.flies(append(numbers(c.left), 3*all)...)
		}
		b.finish()
		b.own()
	}
}

// numbers are the first ones of the hart 0.
func numbers(n int) []int {
	var l []int
	for k := range n {
		l = append(l, 3*k)
	}
	return l
}

// P17.1: two loads of one place in their order squash nothing, whatever comes between.
func TestInOrder(t *testing.T) {
	b := begin(t, "lw x1, 64(x0)\nlw x2, 64(x0)\nhalt", api.Hart{})
	b.bring(3)
	b.play(address, address, load)
	b.other(api.Write{Id: 2, Addr: 64, Size: 4, Data: 9})
	b.play(load)
	b.flies(0, 3, 6)
	b.finish()
	b.x(1, 0)
	b.x(2, 9)
	b.own()
}

// P17.1: the bytes of a load are those of the memory at the moment of its load, whatever comes behind it.
func TestMomentOfLoad(t *testing.T) {
	b := begin(t, "lw x1, 64(x0)\nhalt", api.Hart{})
	b.bring(2)
	b.play(address)
	b.other(api.Write{Id: 1, Addr: 64, Size: 4, Data: 1})
	at := b.at(load, 0)
	b.other(api.Write{Id: 4, Addr: 64, Size: 4, Data: 4})
	b.play(commit)
	if r := b.last(); r.Done.Val != 1 || r.Tags != tags(1, 1, 1, 1) || r.Moment != float64(at) {
		t.Error(r)
	}
	b.own()
}

// P17.1: a store is found by a load behind it, whether it is in flight, in the buffer or in memory.
func TestForwarded(t *testing.T) {
	for l, want := range map[string]uint64{
		"lb": math.MaxUint64 - 0x07, "lbu": 0xf8, "lh": math.MaxUint64 - 0x0807, "lhu": 0xf7f8, "lw": math.MaxUint64 - 0x0a09_0807, "lwu": 0xf5f6_f7f8, "ld": 0xf1f2_f3f4_f5f6_f7f8,
	} {
		for where := range 3 {
			b := begin(t, fmt.Sprintf("sd x1, 64(x0)\n%s x2, 64(x0)\nhalt", l), api.Hart{X: [32]uint64{1: 0xf1f2_f3f4_f5f6_f7f8}})
			b.bring(3)
			b.play(address, address)
			b.play([]int{commit, drain}[:where]...)
			b.play(load)
			b.finish()
			r := b.Retired()[1]
			if n := ops.Size(r.Done.Inst.Op); r.Tags != tags(make([]int, n)...) {
				t.Error(l, where, r.Tags)
			}
			b.x(2, want)
			b.own()
		}
	}
}
