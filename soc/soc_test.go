package soc_test

import (
	"math"
	"slices"
	"strings"
	"testing"

	"undertow/api"
	"undertow/asm"
	"undertow/moment"
	"undertow/soc"
)

// Units, by shorter names.
const (
	fetch   = api.UnitFetch
	execute = api.UnitExecute
	address = api.UnitAddress
	load    = api.UnitLoad
	commit  = api.UnitCommit
	drain   = api.UnitDrain
)

// The tests' images: each hart's code has its room, data stands behind the code.
const (
	room = 32
	data = api.Harts * room
	size = data + 32
)

// nones are numbers of what there is three of, or six, that none of them has.
var nones = []int{-1, 6, 7, -3, -6, 1 << 32, -1 << 32, math.MinInt, math.MaxInt}

// image is that of harts' sources; where there is none the hart has halt.
func image(t *testing.T, sources ...string) []byte {
	t.Helper()
	var all []string
	for n := range api.Harts {
		source := "halt"
		if n < len(sources) {
			source = sources[n]
		}
		all = append(all, ".org "+[]string{"0", "32", "64"}[n], source)
	}
	img, _, line, e := asm.Assemble(strings.Join(all, "\n"), size)
	if e != api.OK {
		t.Fatal(sources, "line", line, "error", e)
	}
	return img
}

// harts are three of the same registers, each at its code.
func harts(x [32]uint64) [api.Harts]api.Hart {
	var h [api.Harts]api.Hart
	for n := range h {
		h[n] = api.Hart{PC: uint64(room * n), X: x}
	}
	return h
}

// one is the harts of one core alone: the others have halted at first.
func one(core int, x [32]uint64) [api.Harts]api.Hart {
	h := harts(x)
	for n := range h {
		if n != core {
			h[n].Cause = api.CauseCall
		}
	}
	return h
}

// made is a machine of harts and an image.
func made(t *testing.T, h [api.Harts]api.Hart, img []byte) *soc.Machine {
	t.Helper()
	m := soc.New(h, img)
	if m == nil {
		t.Fatal("no machine")
	}
	return m
}

// begin is a machine of harts' sources, of the same registers.
func begin(t *testing.T, x [32]uint64, sources ...string) *soc.Machine {
	t.Helper()
	return made(t, harts(x), image(t, sources...))
}

// play does units of a core, the first choice of each, all of which can be done.
func play(t *testing.T, m *soc.Machine, core int, units ...int) {
	t.Helper()
	for k, unit := range units {
		if !m.Step(api.Pick{Core: core, Unit: unit}) {
			t.Fatalf("%d: core %d's unit %d can't be done", k, core, unit)
		}
	}
}

// rush does units of a core, the first choice of each, as long as one of them can be done.
func rush(m *soc.Machine, core int, units ...int) {
	for done := true; done; {
		done = false
		for _, unit := range units {
			if m.Step(api.Pick{Core: core, Unit: unit}) {
				done = true
			}
		}
	}
}

// all are all units but Drain.
var all = []int{fetch, execute, address, load, commit}

// A toldCore is all that a machine tells of one core.
type toldCore struct {
	hart    api.Hart
	retired []api.Retired
	flight  []api.Slot
	stores  [][]api.Write
	choices [api.Units][]int
}

// A toldMachine is all that one tells.
type toldMachine struct {
	cores    [api.Harts]toldCore
	bytes    []byte
	log      []api.Write
	steps    int
	finished bool
}

// tellCore is what is told of a core now.
func tellCore(m *soc.Machine, n int) toldCore {
	c := toldCore{hart: m.Hart(n), retired: m.Retired(n), flight: m.Flight(n), stores: m.Stores(n)}
	for unit := range c.choices {
		c.choices[unit] = m.Choices(n, unit)
	}
	return c
}

// tell is what is told now.
func tell(m *soc.Machine) toldMachine {
	a := toldMachine{bytes: m.Bytes(), log: m.Log(), steps: m.Steps(), finished: m.Finished()}
	for n := range a.cores {
		a.cores[n] = tellCore(m, n)
	}
	return a
}

// same says whether two that retired are told alike.
func same(a, b api.Retired) bool {
	ok := moment.Same(a.Moment, b.Moment)
	a.Moment, b.Moment = 0, 0
	return ok && a == b
}

// unlike is in what two cores that were told differ; nothing, if in none.
func (a toldCore) unlike(b toldCore) string {
	switch {
	case a.hart != b.hart:
		return "hart"
	case !slices.EqualFunc(a.retired, b.retired, same):
		return "retired"
	case !slices.Equal(a.flight, b.flight):
		return "flight"
	case !slices.EqualFunc(a.stores, b.stores, slices.Equal[[]api.Write]):
		return "stores"
	case !slices.EqualFunc(a.choices[:], b.choices[:], slices.Equal[[]int]):
		return "choices"
	}
	return ""
}

// unlike is in what two machines that were told differ.
func (a toldMachine) unlike(b toldMachine) string {
	for n := range a.cores {
		if what := a.cores[n].unlike(b.cores[n]); what != "" {
			return what + " of core " + string(rune('0'+n))
		}
	}
	switch {
	case !slices.Equal(a.bytes, b.bytes):
		return "bytes"
	case !slices.Equal(a.log, b.log):
		return "log"
	case a.steps != b.steps:
		return "steps"
	case a.finished != b.finished:
		return "finished"
	}
	return ""
}

// stays holds that some steps turned nothing but their number.
func (a toldMachine) stays(t *testing.T, m *soc.Machine, steps int, of ...any) {
	t.Helper()
	a.steps += steps
	if what := tell(m).unlike(a); what != "" {
		t.Error(of, "turned", what)
	}
}

// P18.1: the chapter's example.
func TestExample(t *testing.T) {
	for _, h := range [][api.Harts]api.Hart{{}, harts([32]uint64{})} {
		m := made(t, h, image(t))
		for n := range api.Harts {
			for k, unit := range []int{fetch, commit} {
				if m.Finished() || m.Steps() != 2*n+k || m.Hart(n) != h[n] {
					t.Error(n, "too early")
				}
				play(t, m, n, unit)
			}
			h[n].Cause = api.CauseBreak
			if m.Hart(n) != h[n] {
				t.Error(m.Hart(n))
			}
		}
		if !m.Finished() || m.Steps() != 6 {
			t.Error(m.Steps())
		}
	}
}

// P18.1, P18.2: at its beginning a machine's harts are those that it was made of, its memory is the image, and nothing was done.
func TestBeginning(t *testing.T) {
	h := [api.Harts]api.Hart{{PC: 4, X: [32]uint64{0: 3, 1: 1}}, {PC: 32, X: [32]uint64{0: 1, 31: math.MaxUint64}}, {PC: math.MaxUint64, X: [32]uint64{5: 1 << 63}}}
	img := image(t, "nop\nhalt", "lw x1, 96(x0)", "sw x1, 96(x0)\n.org 96\n.word 67305985")
	m := made(t, h, img)
	for n := range h {
		h[n].X[0] = 0
		want := toldCore{hart: h[n], choices: [api.Units][]int{fetch: {0}}}
		if what := tellCore(m, n).unlike(want); what != "" {
			t.Error(n, what)
		}
	}
	if !slices.Equal(m.Bytes(), img) || len(m.Log()) != 0 || m.Steps() != 0 || m.Finished() {
		t.Error(m.Bytes(), m.Log(), m.Steps())
	}
}

// P18.1: an image of as many bytes as a memory may have: each core reaches its last ones.
func TestGreatest(t *testing.T) {
	img := make([]byte, api.MaxMemory)
	copy(img[api.MaxMemory-16:], []byte{0xa3, 0x0f, 0x10, 0x3e}) // sb x1, 1023(x0)
	copy(img[api.MaxMemory-12:], []byte{0x03, 0x41, 0xf0, 0x3f}) // lbu x2, 1023(x0)
	copy(img[api.MaxMemory-8:], []byte{0x73, 0, 0x10, 0})
	h := harts([32]uint64{})
	for n := range h {
		h[n] = api.Hart{PC: api.MaxMemory - 16, X: [32]uint64{1: uint64(n + 5)}}
	}
	m := made(t, h, img)
	for n := range h {
		rush(m, n, append(slices.Clone(all), drain)...)
		if got := m.Hart(n); got.X[2] != uint64(n+5) || got.Cause != api.CauseBreak || m.Bytes()[1023] != byte(n+5) {
			t.Error(n, got)
		}
	}
	if len(m.Bytes()) != api.MaxMemory || !m.Finished() {
		t.Error(len(m.Bytes()))
	}
}

// P18.1: of an image of more bytes there is no machine.
func TestTooGreat(t *testing.T) {
	for _, n := range []int{api.MaxMemory + 1, api.MaxMemory + 4, 2 * api.MaxMemory, 1 << 20} {
		for _, h := range [][api.Harts]api.Hart{{}, harts([32]uint64{}), one(3, [32]uint64{})} {
			if soc.New(h, make([]byte, n)) != nil {
				t.Error("a machine of", n, "bytes")
			}
		}
	}
}

// P18.1: images of few bytes, and of none.
func TestLeast(t *testing.T) {
	for _, img := range [][]byte{nil, {}, {1}, {0x73, 0, 0x10}} {
		m := made(t, [api.Harts]api.Hart{}, img)
		if !slices.Equal(m.Bytes(), img) {
			t.Error(m.Bytes())
		}
		for n := range api.Harts {
			play(t, m, n, fetch, commit)
			if m.Hart(n) != (api.Hart{Cause: api.CauseFetch}) {
				t.Error(m.Hart(n))
			}
		}
		if !m.Finished() || m.Steps() != 6 || len(m.Log()) != 0 {
			t.Error(m.Steps())
		}
	}
}

// P18.1: with none, one, two and all cores halted at first: what has halted does nothing, and the machine has finished once the others have.
func TestHalted(t *testing.T) {
	for set := range 1 << api.Harts {
		for _, cause := range []int{api.CauseCall, api.CauseBreak, api.CauseRange, 7, -1, math.MinInt, math.MaxInt} {
			h := harts([32]uint64{1: 7})
			for n := range h {
				if set>>n&1 != 0 {
					h[n].Cause = cause
				}
			}
			m := made(t, h, image(t, "sw x1, 96(x0)\nhalt", "sw x1, 104(x0)\nhalt", "sw x1, 112(x0)\nhalt"))
			left := 0
			for n := range h {
				if h[n].Cause != 0 {
					was := tell(m)
					rush(m, n, append(slices.Clone(all), drain)...)
					was.stays(t, m, api.Units, set, n)
					if m.Hart(n) != h[n] {
						t.Error(set, n, m.Hart(n))
					}
					continue
				}
				if m.Finished() {
					t.Error(set, n, "has finished")
				}
				rush(m, n, append(slices.Clone(all), drain)...)
				left++
			}
			if !m.Finished() || len(m.Log()) != left || left == 0 && m.Steps() != api.Harts*api.Units {
				t.Error(set, m.Steps(), m.Log())
			}
		}
	}
	if m := made(t, one(-1, [32]uint64{}), nil); !m.Finished() || m.Steps() != 0 {
		t.Error("all have halted")
	}
}

// P18.1: a core that has halted while its buffer isn't empty hasn't finished, nor has one whose buffer is empty and which hasn't halted.
func TestFinished(t *testing.T) {
	for n := range api.Harts {
		source := "sw x1, 96(x0)\nsw x1, 104(x0)\nnop\nhalt"
		m := made(t, one(n, [32]uint64{1: 7}), image(t, source, source, source))
		play(t, m, n, fetch, fetch, fetch, fetch, address, address, commit, commit, drain, drain)
		if m.Finished() || len(m.Stores(n)) != 0 || m.Hart(n).Cause != 0 {
			t.Error(n, "hasn't halted")
		}
		play(t, m, n, execute, commit, commit)
		if !m.Finished() {
			t.Error(n, "hasn't finished")
		}
		m = made(t, one(n, [32]uint64{1: 7}), image(t, source, source, source))
		rush(m, n, all...)
		for left := 2; left > 0; left-- {
			if m.Finished() || len(m.Stores(n)) != left || m.Hart(n).Cause != api.CauseBreak {
				t.Error(n, "has stores", m.Stores(n))
			}
			play(t, m, n, drain)
		}
		if !m.Finished() {
			t.Error(n, "hasn't finished")
		}
	}
}

// P18.2: of cores that are none, and of units, nothing is told.
func TestNoCores(t *testing.T) {
	source := "sw x1, 96(x0)\nlw x2, 96(x0)\nnop\nhalt"
	m := begin(t, [32]uint64{1: 7}, source, source, source)
	for n := range api.Harts {
		play(t, m, n, fetch, fetch, fetch, address, commit)
	}
	was := tell(m)
	for _, n := range append(slices.Clone(nones), api.Harts, api.Harts+1, -2) {
		if m.Hart(n) != (api.Hart{}) || len(m.Retired(n)) != 0 || len(m.Flight(n)) != 0 || len(m.Stores(n)) != 0 {
			t.Error("core", n)
		}
		for _, unit := range append(slices.Clone(nones), 0, 1, 2, 3, 4, 5) {
			if len(m.Choices(n, unit)) != 0 {
				t.Error("core", n, "unit", unit)
			}
		}
	}
	for n := range api.Harts {
		for _, unit := range nones {
			if len(m.Choices(n, unit)) != 0 {
				t.Error("core", n, "unit", unit)
			}
		}
	}
	was.stays(t, m, 0)
}

// P18.1, P18.2: of a nil machine there is nothing, by every call, and it hasn't finished.
func TestNil(t *testing.T) {
	var m *soc.Machine
	for _, p := range []api.Pick{{}, {Core: 2, Unit: drain, At: math.Inf(1)}, {Core: 3}, {Unit: -1}, {At: math.NaN()}} {
		if m.Step(p) || m.Run(p) != 0 || m.Run(p, p, p) != 0 || m.Run() != 0 {
			t.Error(p)
		}
	}
	if m.Steps() != 0 || m.Finished() || len(m.Bytes()) != 0 || len(m.Log()) != 0 {
		t.Error(m.Steps(), m.Bytes())
	}
	for _, n := range append(slices.Clone(nones), 0, 1, 2, 3) {
		if m.Hart(n) != (api.Hart{}) || len(m.Retired(n)) != 0 || len(m.Flight(n)) != 0 || len(m.Stores(n)) != 0 || len(m.Choices(n, 0)) != 0 || len(m.Choices(0, n)) != 0 {
			t.Error("core", n)
		}
	}
}
