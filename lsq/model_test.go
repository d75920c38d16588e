package lsq_test

import (
	"slices"
	"testing"

	"undertow/api"
	"undertow/lsq"
)

// A draw is a row of numbers that is always the same one.
type draw uint64

func (d *draw) word() uint64 {
	*d += 0x9e37_79b9_7f4a_7c15
	x := uint64(*d)
	x = (x ^ x>>30) * 0xbf58_476d_1ce4_e5b9
	x = (x ^ x>>27) * 0x94d0_49bb_1331_11eb
	return x ^ x>>31
}

func (d *draw) of(n int) int { return int(d.word() % uint64(n)) }

// drawn is one of some things.
func drawn[T any](d *draw, l []T) T { return l[d.of(len(l))] }

// A model is a flight of which all is told by its words, one by one.
type model []api.Slot

func (m model) is(k int, ops []int) bool { return slices.Contains(ops, m[k].Op) }

// has says whether a slot has a byte.
func (m model) has(k, b int) bool {
	x := m[k]
	return x.Known && 0 <= x.Addr && x.Addr <= 1<<40 && x.Addr <= b && b-x.Addr < size(x.Op)
}

// shared are the bytes that two slots have, rising.
func (m model) shared(j, k int) []int {
	var l []int
	for b := m[k].Addr; m[k].Known && 0 <= b && b < m[k].Addr+8; b++ {
		if m.has(j, b) && m.has(k, b) {
			l = append(l, b)
		}
	}
	return l
}

// some are the places from a up to b of which something is so.
func some(a, b int, so func(int) bool) []int {
	var l []int
	for k := a; k < b; k++ {
		if so(k) {
			l = append(l, k)
		}
	}
	return l
}

// first and final are the ends of a list; -1, if it has none.
func first(l []int) int { return append(l, -1)[0] }
func final(l []int) int { return append([]int{-1}, l...)[len(l)] }

func (m model) passed(at int, empty bool) bool {
	if at < 0 || at >= len(m) || !m.is(at, []int{api.FENCE, api.TSO}) {
		return false
	}
	isTso, pred := m[at].Op == api.TSO, uint(m[at].Pred)%4
	ahead := func(so func(int) bool) bool { return len(some(0, at, so)) > 0 }
	free := ahead(func(k int) bool { return m.is(k, loads()) && !m[k].Bound })
	store := ahead(func(k int) bool { return m.is(k, stores()) })
	atomic := ahead(func(k int) bool { return m.is(k, atomics()) })
	if (isTso || pred >= 2) && (free || atomic) {
		return false
	}
	return isTso || pred%2 == 0 || !store && !atomic && empty
}

func (m model) waits(at int, empty bool) int {
	if at < 0 || at >= len(m) || !m.is(at, loads()) || !m[at].Known || m[at].Bound {
		return -1
	}
	for _, c := range []struct {
		why int
		so  func(int) bool
	}{
		{1, func(k int) bool { return m.is(k, atomics()) && m[k].Aq }},
		{2, func(k int) bool {
			keeps := m[k].Op == api.TSO || m[k].Op == api.FENCE && uint(m[k].Succ)/2%2 == 1
			return keeps && !m.passed(k, empty)
		}},
		{3, func(k int) bool { return m.is(k, atomics()) && len(m.shared(k, at)) > 0 }},
		{4, func(k int) bool { // a store that isn't ready, and has a byte that none behind it has
			return m.is(k, stores()) && !m[k].Ready && slices.ContainsFunc(m.shared(k, at), func(b int) bool { return m.source(at, b-m[at].Addr) == k })
		}},
	} {
		if len(some(0, at, c.so)) > 0 {
			return c.why
		}
	}
	return 0
}

func (m model) source(at, k int) int {
	if at < 0 || at >= len(m) || k < 0 || k > 7 || !m.has(at, m[at].Addr+k) {
		return -1
	}
	return final(some(0, at, func(j int) bool { return m.is(j, stores()) && m.has(j, m[at].Addr+k) }))
}

func (m model) clash(at int) int {
	if at < 0 || at >= len(m) || !m.is(at, stores()) && !m.is(at, atomics()) {
		return -1
	}
	return first(some(at+1, len(m), func(k int) bool { return m.is(k, loads()) && m[k].Bound && len(m.shared(at, k)) > 0 }))
}

func (m model) reorder(at int) int {
	if at < 0 || at >= len(m) || !m.is(at, loads()) || !m[at].Bound {
		return -1
	}
	return first(some(at+1, len(m), func(k int) bool {
		return m.is(k, loads()) && m[k].Bound && slices.ContainsFunc(m.shared(at, k), func(b int) bool {
			between := some(at+1, k, func(j int) bool { return m.is(j, stores()) && m.has(j, b) })
			return len(between) == 0 && m[at].Tags[b-m[at].Addr] != m[k].Tags[b-m[k].Addr]
		})
	}))
}

// check holds all that is told of a flight against the model.
func check(t *testing.T, l []api.Slot) {
	t.Helper()
	m := model(slices.Clone(l))
	for k := -1; k <= len(l); k++ {
		for _, empty := range []bool{true, false} {
			passed(t, l, k, empty, m.passed(k, empty))
			waits(t, l, k, empty, m.waits(k, empty))
		}
		for b := -1; b <= 8; b++ {
			source(t, l, k, b, m.source(k, b))
		}
		clash(t, l, k, m.clash(k))
		reorder(t, l, k, m.reorder(k))
	}
	if !slices.Equal(l, m) {
		t.Fatalf("%+v, not %+v", l, m)
	}
}

// A drawing is a way in which flights are drawn: where their addresses begin, how many these are, how many tags there are, of which operations they are.
type drawing struct {
	from, addrs, tags int
	likely            int // of how many slots one isn't known, ready, bound
	ops               [][]int
}

// slot is one that is drawn.
func (w drawing) slot(d *draw) api.Slot {
	x := api.Slot{Op: drawn(d, drawn(d, w.ops)), Pred: d.of(16), Succ: d.of(16), Id: d.of(100), Data: d.word(), Addr: w.from + d.of(w.addrs)}
	x.Aq = d.of(2*w.likely) == 0
	x.Known, x.Ready, x.Bound = d.of(w.likely) > 0, d.of(w.likely) > 0, d.of(w.likely) > 0
	for k := range x.Tags {
		x.Tags[k] = d.of(w.tags) - 1
	}
	return x
}

// drawings are some of them: with many bytes in both and few, of all operations, of loads and stores, and of others.
func drawings() []drawing {
	all := [][]int{loads(), loads(), stores(), atomics(), {api.FENCE}, {api.FENCE, api.TSO}, others()}
	plain := [][]int{loads(), stores()}
	var l []drawing
	for _, ops := range [][][]int{all, plain, append(plain, []int{api.FENCE, api.TSO}), append(plain, atomics()), {loads()}} {
		for _, likely := range []int{2, 4, 20} {
			l = append(l, drawing{0, 6, 2, likely, ops}, drawing{0, 20, 3, likely, ops}, drawing{last - 8, 12, 2, likely, ops}, drawing{-3, 6, 3, likely, ops})
		}
	}
	return l
}

// P16.1 to P16.4: many drawn flights.
func TestModel(t *testing.T) {
	d := draw(16)
	for _, w := range drawings() {
		for range 60 {
			var l []api.Slot
			for range d.of(14) {
				l = append(l, w.slot(&d))
			}
			check(t, l)
		}
	}
}

// parts are slots of which all short flights are made: two loads that have some bytes in both, a byte's load, stores, an atomic one and fences.
func parts() []api.Slot {
	return []api.Slot{
		at(api.LW, 4), bound(api.LW, 4, 1), bound(api.LD, 0, 2), unknown(at(api.LB, 4)),
		at(api.SW, 4), ready(api.SH, 6), unknown(at(api.SD, 0)),
		ready(api.SWAPW, 4), acquiring(at(api.LRD, 8)),
		fence(2, 2), fence(1, 2), fence(3, 1), tso(),
	}
}

// P16.1 to P16.4: all flights of up to four of some slots.
func TestFlights(t *testing.T) {
	all := parts()
	for n := range 5 {
		rows := 1
		for range n {
			rows *= len(all)
		}
		for row := range rows {
			var l []api.Slot
			for range n {
				l = append(l, all[row%len(all)])
				row /= len(all)
			}
			check(t, l)
			if t.Failed() {
				return
			}
		}
	}
}

// drawnFlight is one of up to 13 slots, of all sorts.
func drawnFlight(d *draw) []api.Slot {
	w := drawn(d, drawings())
	var l []api.Slot
	for range 1 + d.of(13) {
		l = append(l, w.slot(d))
	}
	return l
}

// isFence says whether a slot is one.
func isFence(x api.Slot) bool { return x.Op == api.FENCE || x.Op == api.TSO }

// P16.5: what is behind a load, itself no matter how it is, doesn't turn whether it waits.
func TestBehind(t *testing.T) {
	d := draw(161)
	for range 3000 {
		l := drawnFlight(&d)
		k, empty := d.of(len(l)), d.of(2) > 0
		want := lsq.Waits(l[:k+1:k+1], k, empty)
		waits(t, l, k, empty, want)
		for range 3 {
			waits(t, append(l[:k+1:k+1], drawnFlight(&d)...), k, empty, want)
		}
	}
}

// P16.5: whether loads ahead of it that no fence is behind of are bound doesn't turn whether a load waits.
func TestBoundAhead(t *testing.T) {
	d := draw(162)
	turned := 0
	for range 5000 {
		l := drawnFlight(&d)
		k, empty := d.of(len(l)), d.of(2) > 0
		want := lsq.Waits(l, k, empty)
		for j := k - 1; j >= 0 && !isFence(l[j]); j-- {
			if slices.Contains(loads(), l[j].Op) {
				l[j].Bound = !l[j].Bound
				turned++
				waits(t, l, k, empty, want)
			}
		}
	}
	if turned < 1000 {
		t.Errorf("only %d were turned", turned)
	}
}

// P16.5: a fence that has passed has so, too, when more is bound; and what waits then waits for no fence that it didn't wait for before.
func TestMoreBound(t *testing.T) {
	d := draw(163)
	open := 0
	for range 5000 {
		l := drawnFlight(&d)
		k, empty := d.of(len(l)), d.of(2) > 0
		was, wait := lsq.Passed(l, k, empty), lsq.Waits(l, k, empty)
		for _, j := range some(0, len(l), func(j int) bool { return j != k && d.of(2) > 0 }) {
			l[j].Bound = true
		}
		if was {
			open++
			passed(t, l, k, empty, true)
		}
		if got := lsq.Waits(l, k, empty); got == lsq.Fenced && wait != lsq.Fenced {
			t.Errorf("%+v: waits for a fence, not for %d", l, wait)
		}
	}
	if open < 200 {
		t.Errorf("only %d had passed", open)
	}
}

// P16.6: where all tags are the same nothing was reordered.
func TestSameTags(t *testing.T) {
	d := draw(164)
	before := 0
	for range 3000 {
		l := drawnFlight(&d)
		k := d.of(len(l))
		if lsq.Reorder(l, k) >= 0 {
			before++
		}
		same := d.of(7) - 1
		for j := range l {
			l[j].Tags = tags(same)
		}
		for k := range l {
			reorder(t, l, k, -1)
		}
	}
	if before < 100 {
		t.Errorf("only %d were reordered with tags that aren't the same", before)
	}
}
