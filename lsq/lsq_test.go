package lsq_test

import (
	"math"
	"slices"
	"testing"

	"undertow/api"
	"undertow/lsq"
)

// last is where a slot's bytes may begin at most.
const last = 1 << 40

// tags are a loaded slot's eight.
func tags(n int) [8]int { return [8]int{n, n, n, n, n, n, n, n} }

// at is a slot whose address is known.
func at(op, addr int) api.Slot { return api.Slot{Op: op, Known: true, Addr: addr, Tags: tags(-1)} }

// ready is a store that has what it stores.
func ready(op, addr int) api.Slot {
	x := at(op, addr)
	x.Ready = true
	return x
}

// bound is a load that has its bytes, all of one write.
func bound(op, addr, tag int) api.Slot {
	x := at(op, addr)
	x.Bound, x.Tags = true, tags(tag)
	return x
}

// acquiring is a slot that has Aq.
func acquiring(x api.Slot) api.Slot {
	x.Aq = true
	return x
}

// unknown is a slot whose address isn't known.
func unknown(x api.Slot) api.Slot {
	x.Known = false
	return x
}

func fence(pred, succ int) api.Slot { return api.Slot{Op: api.FENCE, Pred: pred, Succ: succ} }
func tso() api.Slot                 { return api.Slot{Op: api.TSO, Pred: 3, Succ: 3} }

// flight is a list of slots.
func flight(l ...api.Slot) []api.Slot { return l }

// Operations by what they are in a flight.
func loads() []int  { return []int{api.LB, api.LH, api.LW, api.LD, api.LBU, api.LHU, api.LWU} }
func stores() []int { return []int{api.SB, api.SH, api.SW, api.SD} }
func atomics() []int {
	var l []int
	for op := api.LRW; op <= api.MAXUD; op++ {
		l = append(l, op)
	}
	return l
}

// others are those that are neither a load, a store, an atomic one nor a fence: those of all other sorts, and such as are none.
func others() []int {
	l := []int{0, -1, api.MaxOp + 1, math.MaxInt, math.MinInt, -api.LW, -api.SW, -api.FENCE, 1<<32 | api.LW, 1<<32 | api.SW, 1<<32 | api.TSO, 1<<8 | api.SWAPW}
	for op := api.LUI; op <= api.EBREAK; op++ {
		if (op < api.LB || op > api.SD) && op != api.FENCE && op != api.TSO {
			l = append(l, op)
		}
	}
	return l
}

// size is how many bytes an operation has, written down.
func size(op int) int {
	switch {
	case slices.Contains([]int{api.LB, api.LBU, api.SB}, op):
		return 1
	case slices.Contains([]int{api.LH, api.LHU, api.SH}, op):
		return 2
	case slices.Contains([]int{api.LD, api.SD, api.LRD, api.SCD}, op), api.SWAPD <= op && op <= api.MAXUD:
		return 8
	case slices.Contains([]int{api.LW, api.LWU, api.SW, api.LRW, api.SCW}, op), api.SWAPW <= op && op <= api.MAXUW:
		return 4
	}
	return 0
}

// away are numbers that are no place in a flight of n slots.
func away(n int) []int {
	return []int{-1, -2, n, n + 1, math.MaxInt, math.MaxInt - 1, math.MinInt, math.MinInt + 1, 1 << 32, -1 << 32}
}

// pairs goes through places of two operations, one's address beside the other's or some bytes ahead or behind, and tells whether there is a byte in both.
func pairs(ops, others []int, each func(op, addr, other, base int, both bool)) {
	for _, op := range ops {
		for _, other := range others {
			for _, base := range []int{0, 100, last - 20} {
				for d := -9; d <= 9; d++ {
					if base+d >= 0 {
						each(op, base+d, other, base, -size(op) < d && d < size(other))
					}
				}
			}
		}
	}
}

// either is x if something is so, else y.
func either(so bool, x, y int) int {
	if so {
		return x
	}
	return y
}

func passed(t *testing.T, l []api.Slot, k int, empty, want bool) {
	t.Helper()
	if got := lsq.Passed(l, k, empty); got != want {
		t.Errorf("%+v: Passed of %d, %v: %v", l, k, empty, got)
	}
}

func waits(t *testing.T, l []api.Slot, k int, empty bool, want int) {
	t.Helper()
	if got := lsq.Waits(l, k, empty); got != want {
		t.Errorf("%+v: Waits of %d, %v: %d, not %d", l, k, empty, got, want)
	}
}

// lastWaits holds what a flight's last slot waits for, whether the buffer is empty or not.
func lastWaits(t *testing.T, want int, l ...api.Slot) {
	t.Helper()
	waits(t, l, len(l)-1, true, want)
	waits(t, l, len(l)-1, false, want)
}

func source(t *testing.T, l []api.Slot, k, b, want int) {
	t.Helper()
	if got := lsq.Source(l, k, b); got != want {
		t.Errorf("%+v: Source of %d's %d: %d, not %d", l, k, b, got, want)
	}
}

// sources holds those of all bytes of a slot, and that there are no others.
func sources(t *testing.T, l []api.Slot, k int, want ...int) {
	t.Helper()
	for b, w := range want {
		source(t, l, k, b, w)
	}
	for _, b := range []int{-1, -2, len(want), len(want) + 1, 7 + len(want), math.MaxInt, math.MinInt} {
		source(t, l, k, b, -1)
	}
}

func clash(t *testing.T, l []api.Slot, k, want int) {
	t.Helper()
	if got := lsq.Clash(l, k); got != want {
		t.Errorf("%+v: Clash of %d: %d, not %d", l, k, got, want)
	}
}

func reorder(t *testing.T, l []api.Slot, k, want int) {
	t.Helper()
	if got := lsq.Reorder(l, k); got != want {
		t.Errorf("%+v: Reorder of %d: %d, not %d", l, k, got, want)
	}
}

// P16.1, P16.2: as it is written down.
func TestWrittenDown(t *testing.T) {
	if lsq.None != -1 || lsq.Free != 0 || lsq.Acquire != 1 || lsq.Fenced != 2 || lsq.Atomic != 3 || lsq.Data != 4 {
		t.Error("the constants are others")
	}
	x := at(api.LW, 0)
	lastWaits(t, lsq.Free, unknown(at(api.SW, 0)), x)
	lastWaits(t, lsq.Data, at(api.SW, 0), x)
	lastWaits(t, lsq.Free, ready(api.SW, 0), x)
	sources(t, flight(ready(api.SW, 0), x), 1, 0, 0, 0, 0)
}

// P16.1: a fence with nothing ahead has passed, but one that waits for a buffer's stores; what isn't a fence hasn't.
func TestFenceAlone(t *testing.T) {
	for pred := range 16 {
		for succ := range 16 {
			l := flight(fence(pred, succ), at(api.LW, 0))
			passed(t, l, 0, true, true)
			passed(t, l, 0, false, pred&1 == 0)
			l = flight(api.Slot{Op: api.TSO, Pred: pred, Succ: succ})
			passed(t, l, 0, true, true)
			passed(t, l, 0, false, true)
		}
	}
	for _, op := range slices.Concat(loads(), stores(), atomics(), others()) {
		l := flight(api.Slot{Op: op, Pred: 3, Succ: 3, Known: true, Ready: true, Bound: true})
		passed(t, l, 0, true, false)
		passed(t, l, 0, false, false)
	}
}

// P16.1: which fences pass with a slot ahead, that stands next to it or isn't the last one.
func TestFenceBehind(t *testing.T) {
	type way struct {
		x             api.Slot
		reads, writes bool // do fences that wait for these wait for it?
	}
	ways := []way{{fence(3, 3), false, false}, {tso(), false, false}}
	for _, op := range loads() {
		ways = append(ways, way{at(op, 0), true, false}, way{api.Slot{Op: op, Known: false}, true, false}, way{bound(op, 0, 5), false, false}, way{unknown(bound(op, 0, 5)), false, false}, way{ready(op, last+1), true, false})
	}
	for _, op := range stores() {
		ways = append(ways, way{at(op, 0), false, true}, way{unknown(at(op, 0)), false, true}, way{ready(op, 0), false, true}, way{bound(op, 0, 5), false, true})
	}
	for _, op := range atomics() {
		ways = append(ways, way{at(op, 0), true, true}, way{unknown(at(op, 0)), true, true}, way{ready(op, 0), true, true}, way{bound(op, 0, 5), true, true}, way{acquiring(at(op, 0)), true, true})
	}
	for _, op := range others() {
		ways = append(ways, way{at(op, 0), false, false}, way{acquiring(at(op, 0)), false, false})
	}
	for _, w := range ways {
		for _, l := range [][]api.Slot{{w.x}, {w.x, at(api.ADD, 0)}, {bound(api.LD, 8, 1), w.x, bound(api.LD, 8, 1), {}}} {
			k := len(l)
			for pred := range 16 {
				f := flight(append(slices.Clip(l), fence(pred, 15), at(api.LW, 0), at(api.SWAPW, 0), at(api.SW, 0))...)
				stopped := w.reads && pred&2 != 0 || w.writes && pred&1 != 0
				passed(t, f, k, true, !stopped)
				passed(t, f, k, false, !stopped && pred&1 == 0)
				f[k] = api.Slot{Op: api.TSO, Pred: pred, Succ: pred}
				passed(t, f, k, true, !w.reads)
				passed(t, f, k, false, !w.reads)
			}
		}
	}
}

// P16.1: sets count by their two low bits, whatever number they are.
func TestSets(t *testing.T) {
	for _, n := range []int{4, 8, 12, 1 << 32, math.MinInt, -4} {
		passed(t, flight(at(api.LW, 0), at(api.SW, 0), fence(n, 3)), 2, false, true)
		passed(t, flight(at(api.SW, 0), fence(n|2, 3)), 1, false, true)
		passed(t, flight(at(api.LW, 0), fence(n|2, 3)), 1, true, false)
		passed(t, flight(at(api.SW, 0), fence(n|1, 3)), 1, true, false)
		waits(t, flight(at(api.SW, 8), fence(3, n|1), at(api.LW, 0)), 2, false, lsq.Free)
		waits(t, flight(at(api.SW, 8), fence(3, n|2), at(api.LW, 0)), 2, false, lsq.Fenced)
	}
	for _, n := range []int{-1, math.MaxInt} {
		passed(t, flight(at(api.SW, 0), fence(n, 3)), 1, true, false)
		passed(t, flight(fence(n, 3)), 0, false, false)
		waits(t, flight(fence(1, n), at(api.LW, 0)), 1, false, lsq.Fenced)
	}
}

// P16.1: of several loads ahead each must be bound, wherever it stands.
func TestEachLoad(t *testing.T) {
	for k := range 5 {
		l := flight(bound(api.LB, 0, 1), bound(api.LH, 0, 1), bound(api.LW, 0, 1), bound(api.LD, 0, 1), bound(api.LBU, 0, 1), fence(2, 2), tso())
		passed(t, l, 5, true, true)
		passed(t, l, 6, false, true)
		l[k].Bound = false
		passed(t, l, 5, true, false)
		passed(t, l, 6, false, false)
	}
}

// P16.1: no load waits but one that is known and isn't bound.
func TestNoLoad(t *testing.T) {
	for _, op := range loads() {
		for _, addr := range []int{0, 3, last, last + 1, -1, math.MaxInt, math.MinInt} {
			lastWaits(t, lsq.Free, at(op, addr))
			lastWaits(t, lsq.Free, at(op, addr), at(op, addr))
			lastWaits(t, lsq.None, unknown(at(op, addr)))
			lastWaits(t, lsq.None, bound(op, addr, 1))
			lastWaits(t, lsq.None, unknown(bound(op, addr, 1)))
			lastWaits(t, lsq.None, acquiring(at(api.LRW, addr)), bound(op, addr, 1))
		}
	}
	for _, op := range slices.Concat(stores(), atomics(), others(), []int{api.FENCE, api.TSO}) {
		lastWaits(t, lsq.None, at(op, 0))
		lastWaits(t, lsq.None, acquiring(at(api.LRW, 0)), ready(op, 0))
		lastWaits(t, lsq.None, at(api.SW, 0), at(op, 0))
	}
}

// P16.1: a load waits for what acquires, if that is an atomic one ahead, wherever it goes.
func TestAcquire(t *testing.T) {
	for _, op := range atomics() {
		for _, addr := range []int{0, 8, 64, last + 1} {
			lastWaits(t, lsq.Acquire, acquiring(at(op, addr)), at(api.LW, 0))
			lastWaits(t, lsq.Acquire, acquiring(unknown(at(op, addr))), at(api.LW, 0))
			lastWaits(t, lsq.Acquire, acquiring(ready(op, addr)), at(api.ADD, 0), ready(api.SW, 8), at(api.LW, 0))
		}
		l := flight(at(api.LW, 0), acquiring(at(op, 0)))
		waits(t, l, 0, true, lsq.Free)
	}
	for _, op := range slices.Concat(loads(), stores(), others(), []int{api.FENCE, api.TSO}) {
		lastWaits(t, lsq.Free, acquiring(ready(op, 0)), at(api.LW, 0))
	}
}

// P16.1: a load waits for a fence that keeps reads behind it and hasn't passed.
func TestFenced(t *testing.T) {
	x := at(api.LW, 0)
	for pred := range 16 {
		for succ := range 16 {
			for _, c := range []struct {
				ahead         api.Slot
				reads, writes bool
			}{{at(api.LB, 64), true, false}, {bound(api.LB, 64, 1), false, false}, {ready(api.SB, 64), false, true}, {at(api.SCW, 64), true, true}, {at(api.ADD, 0), false, false}} {
				for _, empty := range []bool{true, false} {
					want := lsq.Free
					if succ&2 != 0 && (pred&2 != 0 && c.reads || pred&1 != 0 && (c.writes || !empty)) {
						want = lsq.Fenced
					}
					waits(t, flight(c.ahead, fence(pred, succ), x), 2, empty, want)
					waits(t, flight(c.ahead, fence(pred, succ), fence(0, 15), bound(api.LW, 0, 1), x), 4, empty, want)
					want = lsq.Free
					if c.reads {
						want = lsq.Fenced
					}
					waits(t, flight(c.ahead, api.Slot{Op: api.TSO, Pred: pred, Succ: succ}, x), 2, empty, want)
				}
			}
		}
	}
}

// P16.1: what stands behind a fence doesn't keep it, nor does a fence behind a load keep that one; of several fences one is enough.
func TestFencesPlaces(t *testing.T) {
	x := at(api.LW, 0)
	lastWaits(t, lsq.Free, fence(2, 2), at(api.LB, 8), x)
	lastWaits(t, lsq.Free, tso(), at(api.LB, 8), at(api.LRW, 8), x)
	lastWaits(t, lsq.Free, fence(2, 2), at(api.SCW, 8), ready(api.SW, 8), x)
	waits(t, flight(fence(3, 3), ready(api.SW, 8), at(api.SCW, 8), at(api.LB, 8), x), 4, true, lsq.Free)
	waits(t, flight(at(api.LW, 8), x, fence(2, 2), x), 1, true, lsq.Free)
	waits(t, flight(at(api.LW, 8), x, fence(2, 2), x), 3, true, lsq.Fenced)
	lastWaits(t, lsq.Fenced, fence(2, 2), at(api.LB, 8), fence(2, 2), x)
	lastWaits(t, lsq.Fenced, at(api.LB, 8), fence(2, 2), fence(0, 3), fence(2, 1), x)
	lastWaits(t, lsq.Fenced, at(api.LB, 8), fence(0, 3), fence(2, 1), tso(), x)
	lastWaits(t, lsq.Free, at(api.LB, 8), fence(0, 3), fence(2, 1), fence(12, 15), x)
}

// P16.1: a load waits for an atomic one ahead that overlaps it.
func TestAtomic(t *testing.T) {
	pairs(atomics(), loads(), func(op, addr, lop, base int, both bool) {
		want := either(both, lsq.Atomic, lsq.Free)
		lastWaits(t, want, ready(op, addr), at(lop, base))
		lastWaits(t, want, at(op, addr), bound(api.LD, base, 1), at(api.ADD, base), at(lop, base))
		lastWaits(t, lsq.Free, unknown(ready(op, addr)), at(lop, base))
		waits(t, flight(at(lop, base), at(op, addr)), 0, true, lsq.Free)
	})
}

// P16.1: a load waits for a store that has one of its bytes last and isn't ready.
func TestData(t *testing.T) {
	pairs(stores(), loads(), func(op, addr, lop, base int, both bool) {
		want := either(both, lsq.Data, lsq.Free)
		lastWaits(t, want, at(op, addr), at(lop, base))
		lastWaits(t, lsq.Free, ready(op, addr), at(lop, base))
		lastWaits(t, lsq.Free, unknown(at(op, addr)), at(lop, base))
		lastWaits(t, want, at(op, addr), unknown(ready(api.SD, base)), ready(api.SB, base+30), at(lop, base))
		waits(t, flight(at(lop, base), at(op, addr)), 0, true, lsq.Free)
	})
}

// P16.1: of two stores that have a byte the last one counts, and each byte counts.
func TestLastStore(t *testing.T) {
	x := at(api.LW, 4)
	lastWaits(t, lsq.Free, at(api.SW, 4), ready(api.SW, 4), x)
	lastWaits(t, lsq.Data, ready(api.SW, 4), at(api.SW, 4), x)
	lastWaits(t, lsq.Data, ready(api.SW, 4), at(api.SB, 7), x)
	lastWaits(t, lsq.Data, at(api.SW, 4), ready(api.SH, 4), ready(api.SB, 6), x)
	lastWaits(t, lsq.Data, at(api.SW, 4), ready(api.SH, 5), ready(api.SB, 7), x)
	lastWaits(t, lsq.Free, at(api.SW, 4), ready(api.SH, 4), ready(api.SB, 6), ready(api.SB, 7), x)
	lastWaits(t, lsq.Free, at(api.SW, 4), ready(api.SD, 0), x)
	lastWaits(t, lsq.Free, at(api.SB, 3), at(api.SD, 8), x)
	lastWaits(t, lsq.Data, at(api.SD, 0), x)
	lastWaits(t, lsq.Data, at(api.SW, 4), unknown(ready(api.SD, 0)), x)
}

// P16.1: of two ways that hold at once the first is told.
func TestFirstWay(t *testing.T) {
	x := at(api.LW, 4)
	data, atomic, acquire := at(api.SW, 4), at(api.AMOADDW, 4), acquiring(at(api.LRD, 64))
	fenced := flight(at(api.LB, 64), fence(2, 2))
	both := func(l ...[]api.Slot) []api.Slot { return append(slices.Concat(l...), x) }
	lastWaits(t, lsq.Atomic, data, atomic, x)
	lastWaits(t, lsq.Atomic, atomic, data, x)
	lastWaits(t, lsq.Acquire, data, acquire, x)
	lastWaits(t, lsq.Acquire, acquire, data, x)
	lastWaits(t, lsq.Acquire, acquiring(atomic), x)
	lastWaits(t, lsq.Acquire, atomic, acquire, x)
	lastWaits(t, lsq.Acquire, acquire, atomic, x)
	lastWaits(t, lsq.Fenced, both(fenced, flight(data))...)
	lastWaits(t, lsq.Fenced, both(flight(data), fenced)...)
	lastWaits(t, lsq.Fenced, both(fenced, flight(atomic))...)
	lastWaits(t, lsq.Fenced, both(flight(atomic), fenced)...)
	lastWaits(t, lsq.Acquire, both(fenced, flight(acquire))...)
	lastWaits(t, lsq.Acquire, both(flight(acquire), fenced)...)
	lastWaits(t, lsq.Acquire, both(flight(data, atomic), fenced, flight(acquire))...)
}

// P16.2: a byte's source is the last store ahead that has it, of stores and loads of each size, wherever they begin.
func TestSource(t *testing.T) {
	for _, op := range stores() {
		for _, lop := range slices.Concat(loads(), stores(), atomics()) {
			for _, base := range []int{0, 100, last - 20, last} {
				for d := -9; d <= 9; d++ {
					if base+d < 0 || base+d > last {
						continue
					}
					var want []int
					for k := range size(lop) {
						w := -1
						if d <= k && k < d+size(op) {
							w = 1
						}
						want = append(want, w)
					}
					l := flight(at(api.SWAPD, base), at(op, base+d), unknown(ready(api.SD, base)), bound(api.LD, base, 4), at(lop, base), ready(api.SD, base))
					sources(t, l, 4, want...)
					l[1].Ready = true
					sources(t, l, 4, want...)
					l[4].Bound = true
					sources(t, l, 4, want...)
					l[4].Known = false
					sources(t, l, 4)
				}
			}
		}
	}
}

// P16.2: bytes of one load are different stores'; of stores that have the same byte the last one counts.
func TestSources(t *testing.T) {
	l := flight(at(api.SW, 4), ready(api.SB, 0), at(api.SH, 5), at(api.SB, 11), at(api.SW, 12), at(api.LD, 4), at(api.SD, 4))
	sources(t, l, 5, 0, 2, 2, 0, -1, -1, -1, 3)
	sources(t, l, 6, 0, 2, 2, 0, -1, -1, -1, 3)
	sources(t, l, 4, -1, -1, -1, -1)
	sources(t, l, 2, 0, 0)
	sources(t, l, 1, -1)
	sources(t, l, 0, -1, -1, -1, -1)
	l[2], l[0] = l[0], l[2]
	sources(t, l, 5, 2, 2, 2, 2, -1, -1, -1, 3)
}

// P16.2: what has no bytes has no sources.
func TestNoBytes(t *testing.T) {
	for _, op := range append(others(), api.FENCE, api.TSO) {
		sources(t, flight(ready(api.SD, 0), at(op, 0)), 1)
		sources(t, flight(at(op, 0), at(api.LW, 0)), 1, -1, -1, -1, -1)
	}
	for _, op := range slices.Concat(loads(), atomics()) {
		l := flight(ready(op, 0), at(api.LB, 0))
		sources(t, l, 1, -1)
	}
}

// P16.1 to P16.4: addresses at the ends: from 0 to 2^40 a slot has its bytes, also beyond 2^40; elsewhere it has none.
func TestEnds(t *testing.T) {
	l := flight(ready(api.SD, last), at(api.SD, last), at(api.LD, last-4), bound(api.LD, last-4, 1), bound(api.LD, last, 2))
	sources(t, l, 2, -1, -1, -1, -1, 1, 1, 1, 1)
	sources(t, l, 4, 1, 1, 1, 1, 1, 1, 1, 1)
	waits(t, l, 2, true, lsq.Data)
	clash(t, l, 0, 3)
	reorder(t, l, 3, 4)
	for _, addr := range []int{last + 1, last + 2, -1, -8, math.MaxInt, math.MaxInt - 7, math.MaxInt - 8, math.MinInt, math.MinInt + 7} {
		for _, near := range []int{addr, addr + 1, addr - 1, addr &^ 7, 0, last, math.MaxInt, math.MinInt} {
			for _, l := range [][]api.Slot{
				{at(api.SD, addr), at(api.SWAPD, addr), at(api.LD, near), bound(api.LD, near, 1), bound(api.LD, addr, 2), bound(api.LD, addr, 3)},
				{at(api.SD, near), at(api.SWAPD, near), at(api.LD, addr), bound(api.LD, addr, 1), bound(api.LD, addr, 2), bound(api.LD, near, 3)},
			} {
				waits(t, flight(l[0], l[2]), 1, true, lsq.Free)
				waits(t, flight(l[1], l[2]), 1, true, lsq.Free)
				source(t, l, 2, 0, -1)
				source(t, l, 2, 7, -1)
				clash(t, l[:4], 0, -1)
				clash(t, l[:4], 1, -1)
				reorder(t, l[:5], 3, -1)
				reorder(t, l, 3, -1)
				reorder(t, l, 4, -1)
			}
		}
	}
}

// P16.3: of a store and of an atomic one that are known the first load behind counts that is bound and overlaps it.
func TestClash(t *testing.T) {
	pairs(append(stores(), atomics()...), loads(), func(op, addr, lop, base int, both bool) {
		want := either(both, 4, -1)
		l := flight(bound(lop, base, 1), at(op, addr), at(lop, base), unknown(bound(lop, base, 1)), bound(lop, base, 1), bound(lop, base, 1))
		clash(t, l, 1, want)
		l[1].Ready = true
		clash(t, l, 1, want)
		clash(t, l[:4], 1, -1)
		l[1].Known = false
		clash(t, l, 1, -1)
	})
}

// P16.3: a load behind that doesn't overlap isn't told, nor one that isn't bound, nor what is no load.
func TestClashSkips(t *testing.T) {
	l := flight(at(api.SW, 4), bound(api.LB, 3, 1), bound(api.LD, 8, 1), at(api.LW, 4), bound(api.SW, 4, 1), bound(api.LRW, 4, 1), bound(api.ADD, 4, 1), bound(api.SWAPW, 4, 1), bound(api.LBU, 7, 1), bound(api.LW, 4, 1))
	clash(t, l, 0, 8)
	clash(t, l[:9], 0, 8)
	clash(t, l[:8], 0, -1)
	clash(t, l, 4, 8)
	clash(t, l, 5, 8)
	clash(t, l, 7, 8)
	l[3].Bound = true
	clash(t, l, 0, 3)
	clash(t, l, 9, -1)
	for _, op := range slices.Concat(loads(), others(), []int{api.FENCE, api.TSO}) {
		x := bound(op, 4, 1)
		x.Ready = true
		clash(t, flight(x, bound(api.LW, 4, 1)), 0, -1)
		clash(t, flight(at(op, 4), bound(api.LW, 4, 1)), 0, -1)
	}
	// A fence and a store between turn nothing.
	clash(t, flight(at(api.SW, 4), fence(3, 3), ready(api.SD, 0), tso(), bound(api.LW, 4, 1)), 0, 4)
}

// P16.4: loads of each size, wherever they begin, that have a byte in both and other tags.
func TestReorder(t *testing.T) {
	pairs(loads(), loads(), func(lop, addr, op, base int, both bool) {
		l := flight(bound(op, base, 1), bound(lop, addr, 1), at(lop, addr), unknown(bound(lop, addr, 2)), bound(lop, addr, 2), bound(lop, addr, 3))
		reorder(t, l, 0, either(both, 4, -1))
		reorder(t, l[:4], 0, -1)
		l[0].Known = false
		reorder(t, l, 0, -1)
		l[0].Known, l[0].Bound = true, false
		reorder(t, l, 0, -1)
	})
}

// P16.4: tags are held against each other by the bytes' addresses; those of bytes that only one has don't count.
func TestReorderTags(t *testing.T) {
	elder, later := bound(api.LW, 4, 0), bound(api.LD, 2, 0)
	elder.Tags = [8]int{10, 11, 12, 13, 14, 15, 16, 17}
	later.Tags = [8]int{8, 9, 10, 11, 12, 13, 90, 91}
	l := flight(elder, later)
	reorder(t, l, 0, -1)
	for k := range 8 {
		l[1] = later
		l[1].Tags[k] = 77
		want := -1
		if 2 <= k && k < 6 {
			want = 1
		}
		reorder(t, l, 0, want)
	}
	l = flight(later, elder)
	reorder(t, l, 0, -1)
	for k := range 8 {
		l[1] = elder
		l[1].Tags[k] = math.MinInt
		want := -1
		if k < 4 {
			want = 1
		}
		reorder(t, l, 0, want)
	}
	reorder(t, flight(bound(api.LB, 0, -1), bound(api.LB, 0, 0)), 0, 1)
	reorder(t, flight(bound(api.LB, 0, -1), bound(api.LB, 0, -1)), 0, -1)
}

// P16.4: bytes that a store between has don't count, others do; a store that isn't known, or doesn't stand between, has none.
func TestReorderBetween(t *testing.T) {
	elder, later := bound(api.LW, 4, 1), bound(api.LW, 4, 2)
	for _, c := range []struct {
		between []api.Slot
		want    int
	}{
		{flight(ready(api.SW, 4)), -1}, {flight(at(api.SW, 4)), -1}, {flight(ready(api.SD, 0)), -1}, {flight(at(api.SD, 4)), -1},
		{flight(ready(api.SB, 4)), 2}, {flight(ready(api.SB, 7)), 2}, {flight(ready(api.SH, 5)), 2}, {flight(ready(api.SD, 5)), 2}, {flight(ready(api.SW, 3)), 2},
		{flight(ready(api.SW, 0)), 2}, {flight(ready(api.SW, 8)), 2}, {flight(ready(api.SB, 3)), 2},
		{flight(unknown(ready(api.SW, 4))), 2}, {flight(ready(api.SH, 4), ready(api.SH, 6)), -1}, {flight(ready(api.SD, 6), at(api.SW, 2)), -1},
		{flight(ready(api.SH, 4), unknown(ready(api.SH, 6))), 3}, {flight(ready(api.SB, 5), ready(api.SB, 4), ready(api.SB, 7)), 4},
		{flight(ready(api.SCW, 4)), 2}, {flight(ready(api.SWAPW, 4)), 2}, {flight(bound(api.LRW, 4, 3)), 2}, {flight(fence(3, 3)), 2}, {flight(at(api.LD, 0)), 2},
	} {
		l := append(append(flight(elder), c.between...), later)
		reorder(t, l, 0, c.want)
		reorder(t, append(l, later), 0, c.want)
	}
	reorder(t, flight(ready(api.SW, 4), elder, later, ready(api.SW, 4)), 1, 2)
	reorder(t, flight(elder, at(api.SW, 4), later, bound(api.LB, 4, 1), bound(api.LD, 0, 2)), 0, -1)
	reorder(t, flight(elder, at(api.SH, 4), bound(api.LH, 4, 2), bound(api.LB, 7, 1), bound(api.LD, 0, 2)), 0, 4)
	reorder(t, flight(elder, bound(api.LH, 4, 2), ready(api.SW, 4), later), 0, 1)
	// Which byte a store between has counts by its address, not by its place in the later load.
	part := bound(api.LD, 0, 1)
	part.Tags[4] = 2
	reorder(t, flight(elder, ready(api.SB, 4), part), 0, -1)
	reorder(t, flight(elder, ready(api.SB, 0), part), 0, 2)
}

// P16.4: what is no load was never reordered, nor is it seen behind one.
func TestReorderOthers(t *testing.T) {
	for _, op := range slices.Concat(stores(), atomics(), others(), []int{api.FENCE, api.TSO}) {
		reorder(t, flight(bound(op, 4, 1), bound(api.LW, 4, 2)), 0, -1)
		reorder(t, flight(bound(api.LW, 4, 1), bound(op, 4, 2)), 0, -1)
	}
}

// P16.1 to P16.4: where there is no slot.
func TestNoSlot(t *testing.T) {
	full := flight(at(api.SW, 0), fence(2, 2), bound(api.LW, 0, 1), bound(api.LW, 0, 2), at(api.LW, 0))
	for _, l := range [][]api.Slot{nil, {}, full, full[:0], full[:3]} {
		for _, k := range away(len(l)) {
			for _, empty := range []bool{true, false} {
				passed(t, l, k, empty, false)
				waits(t, l, k, empty, lsq.None)
			}
			for b := -1; b < 9; b++ {
				source(t, l, k, b, -1)
			}
			clash(t, l, k, -1)
			reorder(t, l, k, -1)
		}
	}
}

// P16.1 to P16.4: what is handed in, its spare room too, isn't changed, and nothing behind the flight's end counts.
func TestHandedIn(t *testing.T) {
	all := flight(at(api.SW, 0), fence(3, 3), tso(), bound(api.LW, 0, 1), ready(api.SB, 0), bound(api.LD, 0, 2), at(api.LW, 0), acquiring(at(api.SWAPW, 0)), bound(api.LW, 0, 3), at(api.LD, 0))
	l := slices.Clone(all)
	for n := range len(l) + 1 {
		for k := -1; k <= n; k++ {
			for _, empty := range []bool{true, false} {
				passed(t, l[:n], k, empty, lsq.Passed(slices.Clone(all[:n]), k, empty))
				waits(t, l[:n], k, empty, lsq.Waits(slices.Clone(all[:n]), k, empty))
			}
			for b := range 8 {
				source(t, l[:n], k, b, lsq.Source(slices.Clone(all[:n]), k, b))
			}
			clash(t, l[:n], k, lsq.Clash(slices.Clone(all[:n]), k))
			reorder(t, l[:n], k, lsq.Reorder(slices.Clone(all[:n]), k))
		}
	}
	if !slices.Equal(l, all) {
		t.Errorf("%+v, not %+v", l, all)
	}
}
