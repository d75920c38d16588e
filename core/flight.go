package core

import (
	"undertow/alu"
	"undertow/api"
	"undertow/moment"
	"undertow/ops"
	"undertow/seq"
)

// An instruction is one in flight.
type instruction struct {
	told     api.Retired // what is told of it when it retires, as far as it is known
	next     uint64      // what it is thought to go on at; once it is reckoned, what it goes on at
	sources  [2]int      // the cells of rs1 and rs2
	cell     int         // the one that it claimed, or, if it writes no register, register 0's, which nobody claims
	reckoned bool        // Execute or Address was done to it
	bound    bool        // Load was done to it
}

// enter brings the instruction at the pc into flight.
func (c *Core) enter() *instruction {
	x := instruction{told: api.Retired{
		Done:   api.Done{PC: c.pc},
		Id:     c.number + api.Harts*c.fetched,
		Moment: moment.Never(),
		Pair:   unpaired,
	}}
	for k := range x.told.Tags {
		x.told.Tags[k] = api.First
	}
	x.told.Done.Inst, x.told.Done.Cause = instructionAt(c.img, c.pc)
	c.fetched++
	c.flight = append(c.flight, x)
	return &c.flight[len(c.flight)-1]
}

// instructionAt is the one at a place of an image, and its cause, if that is known without doing it.
func instructionAt(img []byte, pc uint64) (api.Inst, int) {
	i, cause := seq.Fetch(img, pc)
	switch i.Op {
	case api.ECALL:
		cause = api.CauseCall
	case api.EBREAK:
		cause = api.CauseBreak
	}
	return i, cause
}

// squash takes an instruction and all behind it out of flight; they are fetched again.
func (c *Core) squash(at int) {
	c.goOn(c.flight[at].told.Done.PC)
	c.cut(at)
}

// cut takes what stands from a place on out of flight.
func (c *Core) cut(at int) {
	for _, x := range c.flight[at:] {
		if x.claims() {
			c.names.Undo()
		}
	}
	c.flight = c.flight[:at]
}

// goOn fetches at a place.
func (c *Core) goOn(pc uint64) { c.pc, c.fetches = pc, true }

// slot is what the memory unit sees of an instruction.
func (c *Core) slot(x *instruction) api.Slot {
	i := x.inst()
	s := api.Slot{Op: i.Op, Pred: i.Pred, Succ: i.Succ, Aq: i.Aq, Id: x.told.Id, Bound: x.bound, Tags: x.told.Tags}
	if ops.Memory(i.Op) && x.reckoned && x.told.Done.Cause == api.Running {
		s.Known, s.Addr = true, int(x.told.Done.Addr)
	}
	if ops.Stores(i.Op) {
		_, s.Ready = c.names.Value(x.sources[1])
	}
	if s.Ready && ops.Sort(i.Op) == ops.Store {
		s.Data = c.write(x, 0).Data
	}
	return s
}

// write is what an instruction makes of the bytes that are there.
func (c *Core) write(x *instruction, old uint64) api.Write {
	op := x.inst().Op
	_, b := c.values(x)
	return api.Write{Id: x.told.Id, Addr: int(x.told.Done.Addr), Size: ops.Size(op), Data: alu.Stored(op, old, b)}
}

// bind gives a load its bytes.
func (c *Core) bind(x *instruction, read uint64, tags []int, now float64) {
	x.told.Done.Read = read
	copy(x.told.Tags[:], tags)
	x.told.Moment = now
	c.names.Set(x.cell, alu.Loaded(x.inst().Op, read))
}

// values are those of an instruction's sources.
func (c *Core) values(x *instruction) (uint64, uint64) {
	a, _ := c.names.Value(x.sources[0])
	b, _ := c.names.Value(x.sources[1])
	return a, b
}

// inst is the instruction itself.
func (x *instruction) inst() api.Inst { return x.told.Done.Inst }

// claims says whether an instruction has claimed a cell.
func (x *instruction) claims() bool { return x.cell != 0 }
