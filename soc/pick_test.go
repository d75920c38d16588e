package soc_test

import (
	"math"
	"math/big"
	"slices"
	"strconv"
	"strings"
	"testing"

	"undertow/api"
	"undertow/soc"
)

// numbers are such as a pick may have, each of them with both signs.
var numbers = func() []float64 {
	var l []float64
	for _, at := range []float64{0, math.SmallestNonzeroFloat64, 0.5, math.Nextafter(1, 0), 1, 1.5, 2, math.Nextafter(3, 0), 3, 3.5, 4, 4.9, 5, 6, 7, 11, 1000, 1 << 31, 1<<32 + 1, 1 << 53, 1<<53 + 2, 1 << 62, 1 << 63, 1 << 64, 3 << 64, 1e300, math.MaxFloat64, math.Inf(1), math.NaN()} {
		l = append(l, at, math.Copysign(at, -1))
	}
	return append(l, math.Float64frombits(0x7ff0_0000_0000_0001), math.Float64frombits(math.MaxUint64))
}()

// chosen is which of n things a number chooses; -1, if none.
func chosen(n int, at float64) int {
	switch {
	case n == 0, math.IsNaN(at):
		return -1
	case at == math.Inf(-1):
		return 0
	case at == math.Inf(1):
		return n - 1
	}
	w, _ := big.NewFloat(math.Abs(at)).Int(nil)
	k := int(w.Mod(w, big.NewInt(int64(n))).Int64())
	if math.Signbit(at) {
		return n - 1 - k
	}
	return k
}

// several is a machine whose core has n things that a unit can be done to, at the places from 0 on.
func several(t *testing.T, core, unit, n int) *soc.Machine {
	t.Helper()
	var source string
	var units []int
	many := func(units ...int) []int { return slices.Repeat(units, n) }
	switch unit {
	case fetch:
		units = slices.Repeat([]int{fetch}, 1-n) // behind a halt it can't be done
	case execute:
		source, units = strings.Repeat("addi x1, x0, 1\n", n), many(fetch)
	case address:
		source, units = strings.Repeat("lw x1, 96(x0)\n", n), many(fetch)
	case load:
		source, units = strings.Repeat("lw x1, 96(x0)\n", n), append(many(fetch), many(address)...)
	case commit:
		source, units = strings.Repeat("lw x1, 96(x0)\n", 1-n), []int{fetch} // the load may not retire
	case drain:
		for k := range n {
			source += "sw x1, " + strconv.Itoa(data+8*k) + "(x0)\n"
		}
		units = many(fetch, address, commit)
	}
	sources := []string{"nop\nhalt", "nop\nhalt", "nop\nhalt"}
	sources[core] = source + "halt"
	m := begin(t, [32]uint64{1: 7}, sources...)
	play(t, m, core, units...)
	return m
}

// doneTo is the place that a unit was done to, of n; -1, if it wasn't.
func doneTo(m *soc.Machine, core, unit, n int) int {
	switch l := m.Log(); unit {
	case fetch:
		return len(m.Flight(core)) - 1 - (1 - n)
	case execute:
		for k := range n {
			if !slices.Contains(m.Choices(core, unit), k) {
				return k
			}
		}
	case address:
		return slices.IndexFunc(m.Flight(core), func(s api.Slot) bool { return s.Known })
	case load:
		return slices.IndexFunc(m.Flight(core), func(s api.Slot) bool { return s.Bound })
	case commit:
		return len(m.Retired(core)) - 1
	case drain:
		if len(l) == 1 {
			return (l[0].Addr - data) / 8
		}
	}
	return -1
}

// most is how many things the tests let a unit be done to.
func most(unit int) int {
	if unit == fetch || unit == commit {
		return 1
	}
	return 4
}

// P18.1: each core's each unit is done to the one of none, one and several things that each number chooses, and to nothing else.
func TestPicks(t *testing.T) {
	for core := range api.Harts {
		for unit := range api.Units {
			for n := range most(unit) + 1 {
				for _, at := range numbers {
					m := several(t, core, unit, n)
					was, want := tell(m), chosen(n, at)
					if l := m.Choices(core, unit); !slices.Equal(l, []int{0, 1, 2, 3}[:n]) {
						t.Fatal(core, unit, n, "choices", l)
					}
					done := m.Step(api.Pick{Core: core, Unit: unit, At: at})
					if got := doneTo(m, core, unit, n); done != (want >= 0) || got != want || m.Steps() != was.steps+1 {
						t.Error(core, unit, n, at, "done", done, "to", got, "not", want)
					}
					if !done {
						was.stays(t, m, 1, core, unit, n, at)
					}
					for other := range api.Harts {
						if other != core && tellCore(m, other).unlike(was.cores[other]) != "" {
							t.Error(core, unit, n, at, "turned core", other)
						}
					}
				}
			}
		}
	}
}

// P18.1: layer 3's examples, of three stores that can be drained.
func TestPicksWritten(t *testing.T) {
	for at, want := range map[float64]int{4.9: 1, -4.9: 1, 0: 0, 0.9: 0, 1: 1, 2: 2, 3: 0, -1: 1, -2: 0, -3: 2, -0.9: 2, math.Inf(-1): 0, math.Inf(1): 2, 1 << 53: 2, -(1 << 53): 0} {
		m := several(t, 1, drain, 3)
		if !m.Step(api.Pick{Core: 1, Unit: drain, At: at}) || m.Log()[0].Addr != data+8*want {
			t.Error(at, m.Log())
		}
	}
	m := several(t, 1, drain, 3)
	if !m.Step(api.Pick{Core: 1, Unit: drain, At: math.Copysign(0, -1)}) || m.Log()[0].Addr != data+16 {
		t.Error("-0", m.Log())
	}
}

// P18.1: a pick that isn't right does nothing, whatever its number; the number of steps is one more.
func TestNotRight(t *testing.T) {
	m := begin(t, [32]uint64{1: 7}, "sw x1, 96(x0)\nnop\nlw x2, 96(x0)\nlw x3, 104(x0)\nhalt", "sw x1, 104(x0)\nnop\nhalt", "nop\nhalt")
	play(t, m, 0, fetch, address, commit, fetch, fetch, fetch, address)
	play(t, m, 1, fetch, address, commit, fetch)
	was, steps := tell(m), 0
	for _, at := range numbers {
		for _, none := range append(slices.Clone(nones), 256, 1<<8+1) {
			for k := range api.Units {
				for _, p := range []api.Pick{{Core: none, Unit: k, At: at}, {Core: k % api.Harts, Unit: none, At: at}, {Core: none, Unit: none, At: at}} {
					if m.Step(p) || m.Run(p) != 0 {
						t.Error(p)
					}
					steps += 2
				}
			}
		}
		for unit := range api.Units {
			for _, core := range []int{3, 4, 5} {
				if m.Step(api.Pick{Core: core, Unit: unit, At: at}) {
					t.Error(core, unit, at)
				}
				steps++
			}
		}
	}
	was.stays(t, m, steps)
}

// P18.1: a pick that is right, where nothing can be done, does nothing; the number of steps is one more.
func TestNothingToDo(t *testing.T) {
	finished := begin(t, [32]uint64{})
	for n := range api.Harts {
		play(t, finished, n, fetch, commit)
	}
	for _, m := range []*soc.Machine{begin(t, [32]uint64{}), finished} {
		was, steps := tell(m), 0
		for n := range api.Harts {
			for unit := range api.Units {
				if len(m.Choices(n, unit)) > 0 {
					continue
				}
				for _, at := range numbers {
					if m.Step(api.Pick{Core: n, Unit: unit, At: at}) || m.Run(api.Pick{Core: n, Unit: unit, At: at}) != 0 {
						t.Error(n, unit, at)
					}
					steps += 2
				}
			}
		}
		was.stays(t, m, steps)
	}
}

// P18.1: Run of none, one and many tells how many did anything.
func TestRun(t *testing.T) {
	m := begin(t, [32]uint64{1: 7}, "sw x1, 96(x0)\nhalt")
	for _, l := range [][]api.Pick{nil, {}} {
		if m.Run(l...) != 0 || m.Run() != 0 || m.Steps() != 0 {
			t.Error("of none", m.Steps())
		}
	}
	p := func(unit int) api.Pick { return api.Pick{Unit: unit} }
	for k, c := range []struct {
		l    []api.Pick
		done int
	}{
		{[]api.Pick{p(fetch)}, 1},
		{[]api.Pick{p(commit)}, 0},
		{[]api.Pick{p(drain), p(address), p(address), p(fetch), {Unit: commit, At: math.NaN()}, p(commit), {Core: 3}, p(fetch), p(commit), p(commit), {Core: 1, At: 5}}, 5},
		{[]api.Pick{{Unit: -1}, {Unit: 6}, {Core: -1}, p(fetch)}, 0},
		{[]api.Pick{p(drain)}, 1},
		{[]api.Pick{{Core: 1, Unit: commit}, {Core: 2}, {Core: 2, Unit: commit}}, 3},
		{[]api.Pick{{Core: 0}, {Core: 1}, {Core: 2}}, 0},
	} {
		steps := m.Steps()
		if done := m.Run(c.l...); done != c.done || m.Steps() != steps+len(c.l) || m.Finished() != (k >= 5) {
			t.Error(k, done, m.Steps())
		}
	}
	if len(m.Log()) != 1 || m.Bytes()[96] != 7 {
		t.Error(m.Log())
	}
}

// P18.1: picks that are handed in are neither changed nor kept, nor is their spare room.
func TestPicksTurned(t *testing.T) {
	handed := slices.Repeat([]api.Pick{{}, {Unit: commit}, {Core: 1, At: 2.5}}, 4)
	kept := slices.Clone(handed)
	m, twin := begin(t, [32]uint64{}, "nop\nhalt"), begin(t, [32]uint64{}, "nop\nhalt")
	if m.Run(handed[:7]...) != twin.Run(kept[:7]...) || !slices.Equal(handed, kept) {
		t.Error(handed)
	}
	for k := range handed {
		handed[k] = api.Pick{Core: 2}
	}
	m.Run(api.Pick{Core: 1, Unit: commit})
	twin.Run(api.Pick{Core: 1, Unit: commit})
	tell(twin).stays(t, m, 0)
}

// P18.1: a step's moment is the number of steps ahead of it, of all cores, whatever they did.
func TestMoments(t *testing.T) {
	for n := range api.Harts {
		source := "lw x2, 100(x0)\nsw x1, 96(x0)\namoadd.w x3, x1, (x4)\nhalt"
		m := begin(t, [32]uint64{1: 7, 4: 104}, source, source, source)
		other := (n + 1) % api.Harts
		play(t, m, n, fetch, fetch, fetch, fetch, address, address, address) // steps 0 to 6
		play(t, m, other, fetch, fetch)                                      // 7, 8
		m.Run(api.Pick{Core: 3}, api.Pick{Unit: -1}, api.Pick{Core: n, Unit: drain}, api.Pick{Core: n, Unit: load, At: math.NaN()})
		play(t, m, n, load, commit, commit) // 13, 14, 15
		m.Step(api.Pick{Core: n, Unit: drain, At: math.NaN()})
		play(t, m, n, commit) // 17
		was := m.Retired(n)
		play(t, m, other, fetch) // 18
		play(t, m, n, drain)     // 19
		l := m.Retired(n)
		if len(l) != 3 || l[0].Moment != 13 || !math.IsInf(was[1].Moment, 1) || l[1].Moment != 19 || l[2].Moment != 17 || m.Steps() != 20 {
			t.Error(n, m.Steps(), was, l)
		}
	}
}
