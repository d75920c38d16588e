package core_test

import (
	"math"
	"slices"
	"testing"

	"undertow/api"
	"undertow/asm"
	"undertow/core"
	"undertow/moment"
	"undertow/ram"
	"undertow/seq"
)

// Units, by shorter names.
const (
	fetch   = api.UnitFetch
	execute = api.UnitExecute
	address = api.UnitAddress
	load    = api.UnitLoad
	commit  = api.UnitCommit
	drain   = api.UnitDrain
)

// size is how many bytes the tests' images have; data stands from 64 on.
const size = 128

// A bench is a core, and the memory that it works at.
type bench struct {
	*core.Core
	t     *testing.T
	m     *ram.Ram
	start api.Hart
	img   []byte
	step  int
}

// on is a bench of an image.
func on(t *testing.T, number int, h api.Hart, img []byte) *bench {
	t.Helper()
	c := core.New(number, h, img)
	if c == nil {
		t.Fatal("no core")
	}
	return &bench{c, t, ram.New(img), h, img, 0}
}

// begin is a bench of a program, of the hart 0.
func begin(t *testing.T, source string, h api.Hart) *bench {
	t.Helper()
	img, _, line, e := asm.Assemble(source, size)
	if e != api.OK {
		t.Fatal(source, "line", line, "error", e)
	}
	return on(t, 0, h, img)
}

// at does a unit to what stands at a place; the step that it was done in is answered.
func (b *bench) at(unit, place int) int {
	b.t.Helper()
	k := slices.Index(b.Choices(unit), place)
	if k < 0 || !b.Do(unit, k, b.m, b.step) {
		b.t.Fatalf("unit %d can't be done at %d: %v", unit, place, b.Choices(unit))
	}
	b.step++
	return b.step - 1
}

// play does units, the first choice of each.
func (b *bench) play(units ...int) {
	b.t.Helper()
	for k, unit := range units {
		if !b.Do(unit, 0, b.m, b.step) {
			b.t.Fatalf("%d: unit %d can't be done", k, unit)
		}
		b.step++
	}
}

// bring fetches some.
func (b *bench) bring(n int) {
	b.t.Helper()
	b.play(slices.Repeat([]int{fetch}, n)...)
}

// rush does units, the first choice of each, as long as one of them can be done.
func (b *bench) rush(units ...int) {
	b.t.Helper()
	for range 1000 {
		done := false
		for _, unit := range units {
			if b.Do(unit, 0, b.m, b.step) {
				b.step++
				done = true
			}
		}
		if !done {
			return
		}
	}
	b.t.Fatal("no end")
}

// finish does all units till nothing is left.
func (b *bench) finish() {
	b.t.Helper()
	b.rush(fetch, execute, address, load, commit, drain)
	if !b.Quiet() {
		b.t.Fatal("it isn't quiet")
	}
}

// can holds what a unit can be done to.
func (b *bench) can(unit int, places ...int) {
	b.t.Helper()
	if l := b.Choices(unit); !slices.Equal(l, places) {
		b.t.Errorf("unit %d: %v, not %v", unit, l, places)
	}
}

// idle holds that some units can be done to nothing, whatever choice is meant.
func (b *bench) idle(units ...int) {
	b.t.Helper()
	for _, unit := range units {
		b.can(unit)
		for _, k := range []int{0, 1, -1, math.MinInt, math.MaxInt} {
			if b.Do(unit, k, b.m, b.step) {
				b.t.Errorf("unit %d did its choice %d", unit, k)
			}
		}
	}
}

// flies holds the numbers of what is in flight.
func (b *bench) flies(numbers ...int) {
	b.t.Helper()
	l := b.Flight()
	for k := range l {
		if len(l) != len(numbers) || l[k].Id != numbers[k] {
			b.t.Errorf("in flight: %v, not %v", l, numbers)
			return
		}
	}
	if len(l) != len(numbers) {
		b.t.Errorf("nothing in flight, not %v", numbers)
	}
}

// last is what retired last.
func (b *bench) last() api.Retired {
	b.t.Helper()
	l := b.Retired()
	if len(l) == 0 {
		b.t.Fatal("nothing retired")
	}
	return l[len(l)-1]
}

// told holds what retired last.
func (b *bench) told(want api.Retired) {
	b.t.Helper()
	if got := b.last(); !same(got, want) {
		b.t.Errorf("retired:\n%+v, not\n%+v", got, want)
	}
}

// plain is what is told of an instruction that has nothing of memory.
func plain(id int, d api.Done) api.Retired {
	return api.Retired{Done: d, Id: id, Moment: moment.Never(), Tags: tags(), Pair: -1}
}

// tags are some, and -1 behind them.
func tags(l ...int) [8]int {
	t := [8]int{-1, -1, -1, -1, -1, -1, -1, -1}
	copy(t[:], l)
	return t
}

// same says whether two that retired are told alike.
func same(a, b api.Retired) bool {
	ok := moment.Same(a.Moment, b.Moment)
	a.Moment, b.Moment = 0, 0
	return ok && a == b
}

// own holds that what retired is the program's own, and that the hart is where that has brought it.
func (b *bench) own() {
	b.t.Helper()
	h := b.start
	h.X[0] = 0
	for k, r := range b.Retired() {
		var d api.Done
		if h, d = seq.Step(h, b.img, r.Done.Read, r.Done.Failed); d != r.Done {
			b.t.Fatalf("%d: retired %+v, not %+v", k, r.Done, d)
		}
	}
	if b.Hart() != h {
		b.t.Errorf("the hart is %+v, not %+v", b.Hart(), h)
	}
}

// x holds a register.
func (b *bench) x(r int, want uint64) {
	b.t.Helper()
	if got := b.Hart().X[r]; got != want {
		b.t.Errorf("x%d is %x, not %x", r, got, want)
	}
}

// kept is all that is told of a core.
type kept struct {
	hart    api.Hart
	retired []api.Retired
	flight  []api.Slot
	stores  [][]api.Write
	quiet   bool
	choices [api.Units][]int
	bytes   []byte
	tags    []int
	log     []api.Write
}

// all is all that is told now.
func (b *bench) all() kept {
	k := kept{hart: b.Hart(), retired: b.Retired(), flight: b.Flight(), stores: b.Stores(), quiet: b.Quiet(), bytes: b.m.Bytes(), tags: b.m.Tags(), log: b.m.Log()}
	for unit := range k.choices {
		k.choices[unit] = b.Choices(unit)
	}
	return k
}

// alike holds two that were told against each other; what they are of is said where they aren't alike.
func (a kept) alike(t *testing.T, b kept, of ...any) bool {
	t.Helper()
	entry := func(a, b []api.Write) bool { return slices.Equal(a, b) }
	ints := func(a, b []int) bool { return slices.Equal(a, b) }
	switch {
	case a.hart != b.hart:
		t.Error(of, "harts", a.hart, b.hart)
	case !slices.EqualFunc(a.retired, b.retired, same):
		t.Error(of, "retired", a.retired, b.retired)
	case !slices.Equal(a.flight, b.flight):
		t.Error(of, "in flight", a.flight, b.flight)
	case !slices.EqualFunc(a.stores, b.stores, entry):
		t.Error(of, "stores", a.stores, b.stores)
	case a.quiet != b.quiet:
		t.Error(of, "quiet", a.quiet, b.quiet)
	case !slices.EqualFunc(a.choices[:], b.choices[:], ints):
		t.Error(of, "choices", a.choices, b.choices)
	case !slices.Equal(a.bytes, b.bytes), !slices.Equal(a.tags, b.tags):
		t.Error(of, "memory", a.bytes, b.bytes, a.tags, b.tags)
	case !slices.Equal(a.log, b.log):
		t.Error(of, "log", a.log, b.log)
	default:
		return true
	}
	return false
}

// The chapter's example.
func TestExample(t *testing.T) {
	b := begin(t, "addi x1, x0, 5\nhalt", api.Hart{})
	b.play(fetch, fetch, execute, commit, commit)
	b.x(1, 5)
	if h := b.Hart(); h.Cause != api.CauseBreak || h.PC != 4 || !b.Quiet() {
		t.Error(h)
	}
	b.own()
}

// P17.1: harts that there are, and that there aren't.
func TestHarts(t *testing.T) {
	for _, n := range []int{0, 1, 2} {
		b := on(t, n, api.Hart{}, []byte{0x73, 0, 0x10, 0})
		b.play(fetch)
		b.flies(n)
		b.play(commit)
		if b.last().Id != n {
			t.Error(n, b.last())
		}
	}
	for _, n := range []int{-1, 3, 4, -3, math.MinInt, math.MaxInt} {
		if core.New(n, api.Hart{}, make([]byte, 8)) != nil {
			t.Error("there is no hart", n)
		}
	}
}

// P17.1: images of as many bytes as a memory may have, of one more, and without any.
func TestImages(t *testing.T) {
	for _, n := range []int{api.MaxMemory + 1, api.MaxMemory + 4, 1 << 16} {
		if core.New(0, api.Hart{}, make([]byte, n)) != nil {
			t.Error("an image has", n, "bytes")
		}
	}
	img := make([]byte, api.MaxMemory)
	copy(img[api.MaxMemory-8:], []byte{0x83, 0x20, 0xc0, 0x3f}) // lw x1, 1020(x0)
	copy(img[api.MaxMemory-4:], []byte{0x73, 0, 0x10, 0})
	b := on(t, 2, api.Hart{PC: api.MaxMemory - 8}, img)
	b.play(fetch, fetch, address, load, commit, commit)
	b.x(1, 0x100073)
	b.own()
	for _, img := range [][]byte{nil, {}} {
		b := on(t, 1, api.Hart{X: [32]uint64{5: 6}}, img)
		b.can(fetch, 0)
		b.play(fetch, commit)
		b.told(plain(1, api.Done{Cause: api.CauseFetch}))
		b.x(5, 6)
		b.own()
	}
}

// P17.1: a hart that has halted does nothing, whatever its cause is.
func TestHalted(t *testing.T) {
	for _, cause := range []int{api.CauseCall, api.CauseBreak, api.CauseIllegal, api.CauseFetch, api.CauseAlign, api.CauseRange, 7, -1, math.MinInt, math.MaxInt} {
		h := api.Hart{PC: 8, X: [32]uint64{0: 3, 7: 9}, Cause: cause}
		b := begin(t, "nop\nnop\nnop\nhalt", h)
		h.X[0] = 0
		b.idle(fetch, execute, address, load, commit, drain)
		b.flies()
		if b.Hart() != h || !b.Quiet() || len(b.Retired())+len(b.Stores()) != 0 {
			t.Error(cause, b.Hart())
		}
	}
}

// P17.3: at its beginning a core is its hart, and is not quiet.
func TestBeginning(t *testing.T) {
	h := api.Hart{PC: 4, X: [32]uint64{0: 3, 1: 1, 31: math.MaxUint64}}
	b := begin(t, "nop\nhalt", h)
	h.X[0] = 0
	if b.Hart() != h || b.Quiet() || len(b.Retired())+len(b.Stores())+len(b.Flight()) != 0 {
		t.Error(b.Hart())
	}
	b.idle(execute, address, load, commit, drain)
	b.can(fetch, 0)
}

// P17.1, P17.2: units that are none have nothing to be done.
func TestNoUnits(t *testing.T) {
	b := begin(t, "nop\nhalt", api.Hart{})
	b.bring(1)
	was := b.all()
	b.idle(-1, api.Units, api.Units+1, math.MinInt, math.MaxInt)
	b.all().alike(t, was)
}

// ready is a core with something for each unit.
func ready(t *testing.T) *bench {
	t.Helper()
	b := begin(t, "sw x1, 64(x0)\nsw x1, 72(x0)\nnop\nadd x2, x1, x1\nsub x3, x1, x1\nlw x4, 80(x0)\nlw x5, 84(x0)\nlw x6, 88(x0)\nlw x7, 92(x0)\nhalt", api.Hart{X: [32]uint64{1: 7}})
	b.bring(3)
	b.play(address, address, execute, commit, commit)
	b.bring(6)
	b.at(address, 3)
	b.at(address, 4)
	return b
}

// readied is what ready's units can be done to.
var readied = [api.Units][]int{fetch: {0}, execute: {1, 2}, address: {5, 6}, load: {3, 4}, commit: {0}, drain: {0, 1}}

// P17.1: what each unit can be done to.
func TestChoices(t *testing.T) {
	b := ready(t)
	for unit, places := range readied {
		b.can(unit, places...)
	}
}

// P17.2: a choice that there isn't, of each unit, does nothing.
func TestChoiceNone(t *testing.T) {
	for unit, places := range readied {
		for _, k := range []int{len(places), len(places) + 1, -1, -len(places), math.MinInt, math.MaxInt, 1 << 32, -1 << 32} {
			b := ready(t)
			was := b.all()
			if b.Do(unit, k, b.m, b.step) || !b.all().alike(t, was) {
				t.Error("unit", unit, "did its choice", k)
			}
		}
		for k := range places {
			b := ready(t)
			if !b.Do(unit, k, b.m, b.step) {
				t.Error("unit", unit, "didn't do its choice", k)
			}
		}
	}
}

// P17.2: without a memory of as many bytes as the image nothing is done, whichever unit is meant.
func TestMemoryNone(t *testing.T) {
	for unit := range readied {
		for _, m := range []*ram.Ram{nil, ram.New(nil), ram.New(make([]byte, size-1)), ram.New(make([]byte, size+1)), ram.New(make([]byte, api.MaxMemory))} {
			b := ready(t)
			was, bytes := b.all(), m.Bytes()
			if b.Do(unit, 0, m, b.step) || !b.all().alike(t, was) || !slices.Equal(m.Bytes(), bytes) {
				t.Error("unit", unit, "was done to", len(bytes))
			}
		}
	}
	c := core.New(0, api.Hart{}, nil)
	if c.Do(fetch, 0, nil, 0) || c.Do(fetch, 0, ram.New([]byte{1}), 0) || !c.Do(fetch, 0, ram.New(nil), 0) {
		t.Error("an image without bytes")
	}
}

// P17.2: a step without a moment does nothing; the first and the last one that have some do.
func TestSteps(t *testing.T) {
	for unit := range readied {
		for _, step := range []int{-1, 1<<53 + 1, math.MinInt, math.MaxInt} {
			b := ready(t)
			was := b.all()
			if b.Do(unit, 0, b.m, step) || !b.all().alike(t, was) {
				t.Error("unit", unit, "was done in step", step)
			}
		}
		for _, step := range []int{0, 1 << 53} {
			if b := ready(t); !b.Do(unit, 0, b.m, step) {
				t.Error("unit", unit, "wasn't done in step", step)
			}
		}
	}
}

// P17.2: the unit is done to the one that is meant.
func TestChosen(t *testing.T) {
	for k, want := range readied[load] {
		b := ready(t)
		b.Do(load, k, b.m, b.step)
		for at, s := range b.Flight() {
			if s.Bound != (at == want) {
				t.Error("load", k, at)
			}
		}
	}
	for k, want := range readied[address] {
		b := ready(t)
		b.Do(address, k, b.m, b.step)
		for at, s := range b.Flight() {
			if s.Known != (at == want || at == 3 || at == 4) {
				t.Error("address", k, at)
			}
		}
	}
	for k := range readied[execute] {
		b := ready(t)
		b.Do(execute, k, b.m, b.step)
		b.can(execute, readied[execute][1-k])
	}
	for k := range readied[drain] {
		b := ready(t)
		b.Do(drain, k, b.m, b.step)
		if l := b.m.Log(); len(l) != 1 || l[0].Addr != 64+8*k {
			t.Error("drain", k, l)
		}
	}
}

// P17.1 to P17.3: a nil core has nothing, and nothing is done to it.
func TestNil(t *testing.T) {
	var c *core.Core
	m := ram.New(nil)
	for unit := -1; unit <= api.Units; unit++ {
		if len(c.Choices(unit)) != 0 || c.Do(unit, 0, m, 0) || c.Do(unit, -1, nil, -1) {
			t.Error("unit", unit)
		}
	}
	if c.Hart() != (api.Hart{}) || len(c.Retired()) != 0 || len(c.Flight()) != 0 || len(c.Stores()) != 0 || c.Quiet() {
		t.Error("something")
	}
}
