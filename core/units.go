package core

import (
	"cmp"
	"slices"

	"undertow/alu"
	"undertow/api"
	"undertow/lsq"
	"undertow/ops"
	"undertow/ram"
	"undertow/word"
)

// byteBits is how many bits a byte has.
const byteBits = 8

// A unit tells the places of what it can be done to, and does it to that at one of them, in a memory, at a moment.
type unit struct {
	choices func(*Core) []int
	do      func(*Core, int, *ram.Ram, float64)
}

// units are a core's, by their numbers.
func units() [api.Units]unit {
	return [api.Units]unit{
		api.UnitFetch:   {(*Core).toFetch, (*Core).fetch},
		api.UnitExecute: {(*Core).toExecute, (*Core).execute},
		api.UnitAddress: {(*Core).toAddress, (*Core).address},
		api.UnitLoad:    {(*Core).toLoad, (*Core).load},
		api.UnitCommit:  {(*Core).toCommit, (*Core).commit},
		api.UnitDrain:   {(*Core).toDrain, (*Core).drain},
	}
}

// only is the one place of a unit that is done to nothing else, if it can be done.
func only(can bool) []int {
	if !can {
		return nil
	}
	return []int{0}
}

// toFetch is whether there is room for the instruction at the pc.
func (c *Core) toFetch() []int { return only(c.fetches && len(c.flight) < Rob) }

// fetch brings the instruction at the pc into flight.
func (c *Core) fetch(int, *ram.Ram, float64) {
	x := c.enter()
	i := x.inst()
	if x.told.Done.Cause != api.Running {
		c.fetches = false
		return
	}
	x.next = c.guess.Next(i, c.pc)
	c.pc = x.next
	x.sources = [2]int{c.names.Look(i.Rs1), c.names.Look(i.Rs2)} // ahead of the claim; a register that isn't read is register 0
	x.cell, _ = c.names.Claim(ops.Target(i))
}

// toExecute are those that work on registers alone and have what they read.
func (c *Core) toExecute() []int { return c.unreckoned(executes, 2) }

// execute does one.
func (c *Core) execute(at int, _ *ram.Ram, _ float64) {
	x := &c.flight[at]
	i, pc := x.inst(), x.told.Done.PC
	a, b := c.values(x)
	c.names.Set(x.cell, alu.Result(i, pc, a, b))
	x.reckoned = true
	if next := alu.Next(i, pc, a, b); next != x.next {
		x.next = next
		c.cut(at + 1)
		c.goOn(next)
	}
}

// toAddress are the memory instructions whose address can be reckoned.
func (c *Core) toAddress() []int { return c.unreckoned(ops.Memory, 1) }

// address reckons one's.
func (c *Core) address(at int, _ *ram.Ram, _ float64) {
	x := &c.flight[at]
	i := x.inst()
	a, _ := c.values(x)
	x.told.Done.Addr = alu.Address(i, a)
	x.told.Done.Cause = cause(alu.Where(i.Op, x.told.Done.Addr, len(c.img)))
	x.reckoned = true
	if from := lsq.Clash(c.Flight(), at); from >= 0 {
		c.squash(from)
	}
}

// unreckoned are the places of those, of some operations, that aren't reckoned and whose first sources are ready.
func (c *Core) unreckoned(some func(op int) bool, first int) []int {
	var l []int
flight:
	for at, x := range c.flight {
		if x.reckoned || !some(x.inst().Op) {
			continue
		}
		for _, cell := range x.sources[:first] {
			if _, ready := c.names.Value(cell); !ready {
				continue flight
			}
		}
		l = append(l, at)
	}
	return l
}

// toLoad are the loads that wait for nothing.
func (c *Core) toLoad() []int {
	var l []int
	flight, empty := c.Flight(), c.buffer.Empty()
	for at := range flight {
		if lsq.Waits(flight, at, empty) == lsq.Free {
			l = append(l, at)
		}
	}
	return l
}

// load gives a load its bytes.
func (c *Core) load(at int, m *ram.Ram, now float64) {
	x := &c.flight[at]
	flight := c.Flight()
	var bytes []byte
	var tags []int
	for k := range ops.Size(x.inst().Op) {
		b, tag := c.find(flight, at, k, m)
		bytes, tags = append(bytes, b), append(tags, tag)
	}
	c.bind(x, word.Of(bytes), tags, now)
	x.bound = true
	if from := lsq.Reorder(c.Flight(), at); from >= 0 {
		c.squash(from)
	}
}

// find is the byte k of a load, and its tag: the latest that the hart has stored, or the memory's.
func (c *Core) find(flight []api.Slot, at, k int, m *ram.Ram) (byte, int) {
	addr := flight[at].Addr + k
	if from := lsq.Source(flight, at, k); from >= 0 {
		s := flight[from]
		return byte(s.Data >> (byteBits * (addr - s.Addr))), s.Id
	}
	if b, id, ok := c.buffer.Find(addr); ok {
		return b, id
	}
	b, tags, _ := m.Load(addr, 1)
	return byte(b), tags[0]
}

// toDrain are the entries of the buffer that may go.
func (c *Core) toDrain() []int { return c.buffer.Ready() }

// drain lets one go to memory.
func (c *Core) drain(at int, m *ram.Ram, now float64) {
	for _, w := range c.buffer.Drain(at) {
		m.Store(c.number, w)
		k, _ := slices.BinarySearchFunc(c.retired, w.Id, func(r api.Retired, id int) int { return cmp.Compare(r.Id, id) }) // what retired later was fetched later
		c.retired[k].Moment = now
	}
}

// executes says whether an operation works on registers alone.
func executes(op int) bool {
	switch ops.Sort(op) {
	case ops.Upper, ops.Jump, ops.Branch, ops.Number, ops.Pair:
		return true
	}
	return false
}

// cause is why an instruction whose address may not be halts the hart; Running, if it may.
func cause(e api.Errno) int {
	switch e {
	case api.ErrAlign:
		return api.CauseAlign
	case api.ErrRange:
		return api.CauseRange
	}
	return api.Running
}
