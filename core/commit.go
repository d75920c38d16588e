package core

import (
	"slices"

	"undertow/api"
	"undertow/moment"
	"undertow/ops"
	"undertow/ram"
)

// A fence's sets have writes and reads by these bits.
const (
	setWrites = 1
	setReads  = 2
)

// toCommit is whether the oldest instruction may leave flight.
func (c *Core) toCommit() []int { return only(len(c.flight) > 0 && c.mayRetire(&c.flight[0])) }

// mayRetire says whether the oldest instruction has all that it needs.
func (c *Core) mayRetire(x *instruction) bool {
	if x.told.Done.Cause != api.Running {
		return true
	}
	i, s := x.inst(), c.slot(x)
	switch ops.Sort(i.Op) {
	case ops.Load:
		return x.bound
	case ops.Store:
		return s.Known && s.Ready && c.buffer.Fits(c.write(x, 0))
	case ops.Fence:
		return i.Op == api.TSO || i.Pred&setWrites == 0 || i.Succ&setReads == 0 || c.buffer.Empty()
	case ops.Reserve:
		return s.Known && c.clear(i, s)
	case ops.Conditional, ops.Atomic:
		return s.Known && s.Ready && c.clear(i, s) && !c.buffer.Elder()
	}
	return x.reckoned
}

// clear says whether no store in the buffer keeps an instruction from the memory.
func (c *Core) clear(i api.Inst, s api.Slot) bool {
	return !c.buffer.Overlaps(s.Addr, ops.Size(i.Op)) && (!i.Rl || c.buffer.Empty())
}

// commit retires the oldest instruction.
func (c *Core) commit(at int, m *ram.Ram, now float64) {
	x := &c.flight[at]
	if x.told.Done.Cause != api.Running {
		c.halt(x)
		return
	}
	c.finish(x, m, now)
	x.told.Done.Val, _ = c.names.Value(x.cell)
	if x.claims() {
		c.names.Retire()
	}
	c.guess.Train(x.inst(), x.told.Done.PC, x.next)
	c.hart.PC = x.next
	c.retired = append(c.retired, x.told)
	c.flight = slices.Delete(c.flight, at, at+1)
}

// halt retires an instruction that has a cause, with which all ends.
func (c *Core) halt(x *instruction) {
	c.hart.PC, c.hart.Cause = x.told.Done.PC, x.told.Done.Cause
	c.retired = append(c.retired, x.told)
	c.cut(0)
	c.fetches = false
}

// finish does what is left of an instruction till it retires.
func (c *Core) finish(x *instruction, m *ram.Ram, now float64) {
	i, addr, size := x.inst(), int(x.told.Done.Addr), ops.Size(x.inst().Op)
	switch ops.Sort(i.Op) {
	case ops.Store:
		w := c.write(x, 0)
		c.buffer.Put(w)
		x.told.Done.Wrote, x.told.Moment = w.Data, moment.Later()
	case ops.Fence:
		if i.Op == api.TSO || i.Pred&i.Succ&setWrites != 0 {
			c.buffer.Barrier()
		}
	case ops.Reserve:
		c.read(x, m, now)
		m.Reserve(c.number, addr, size)
		c.reserve = x.told.Id
	case ops.Atomic:
		c.store(x, c.read(x, m, now), m, now)
	case ops.Conditional:
		if m.Held(c.number, addr, size) {
			c.store(x, 0, m, now)
			x.told.Pair = c.reserve
			c.names.Set(x.cell, 0)
		} else {
			x.told.Done.Failed = true
			c.names.Set(x.cell, 1)
		}
		m.Drop(c.number)
	}
}

// read gives an instruction the memory's bytes; they are told.
func (c *Core) read(x *instruction, m *ram.Ram, now float64) uint64 {
	old, tags, _ := m.Load(int(x.told.Done.Addr), ops.Size(x.inst().Op))
	c.bind(x, old, tags, now)
	return old
}

// store lets the memory have what an instruction makes of its bytes.
func (c *Core) store(x *instruction, old uint64, m *ram.Ram, now float64) {
	w := c.write(x, old)
	m.Store(c.number, w)
	x.told.Done.Wrote, x.told.Moment = w.Data, now
}
