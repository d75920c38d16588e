package core_test

import (
	"slices"
	"testing"

	"undertow/alu"
	"undertow/api"
	"undertow/core"
	"undertow/moment"
	"undertow/ops"
	"undertow/ram"
	"undertow/seq"
)

// A deed is an instruction that was fetched, as the model has it.
type deed struct {
	n              int
	d              api.Done
	next           uint64
	from           [2]*deed // who writes what it reads; without one the registers are as they were at first
	first          [2]uint64
	has            bool // has it what it writes?
	reckoned, bond bool
	moment         float64
	tags           [8]int
	pair           int
}

// source is one of a deed's, and whether it is there.
func (x *deed) source(k int) (uint64, bool) {
	if x.from[k] == nil {
		return x.first[k], true
	}
	return x.from[k].d.Val, x.from[k].has
}

func (x *deed) sort() int { return ops.Sort(x.d.Inst.Op) }

func (x *deed) size() int { return ops.Size(x.d.Inst.Op) }

// known says whether a deed has a place.
func (x *deed) known() bool { return x.size() > 0 && x.reckoned && x.d.Cause == 0 }

// at says whether a deed has a byte.
func (x *deed) at(b uint64) bool { return x.known() && x.d.Addr <= b && b < x.d.Addr+uint64(x.size()) }

// shared says whether two have a byte in both.
func (x *deed) shared(y *deed) bool {
	for b := range uint64(api.MaxMemory) {
		if x.at(b) && y.at(b) {
			return true
		}
	}
	return false
}

// touches says whether a deed goes to memory as it retires.
func (x *deed) touches() bool {
	return slices.Contains([]int{ops.Reserve, ops.Conditional, ops.Atomic}, x.sort())
}

// A stored is a store in the model's buffer.
type stored struct {
	api.Write
	epoch int
}

// A model is a core, and the memory it works at, without cells: what is read is who wrote it.
type model struct {
	number   int
	img      []byte
	start    api.Hart
	flight   []*deed
	done     []*deed
	pc       uint64
	fetches  bool
	count    int
	end      api.Hart
	counters map[uint64]int
	targets  map[uint64]uint64
	buffer   []stored
	epoch    int
	reserve  int
	mem      []byte
	tags     []int
	log      []api.Write
	held     api.Write // the place that the hart reserved; of the size 0: none
	met      map[string]int
}

func newModel(number int, h api.Hart, img []byte, met map[string]int) *model {
	h.X[0] = 0
	m := &model{number: number, img: img, start: h, pc: h.PC, fetches: h.Cause == 0, end: h, counters: map[uint64]int{}, targets: map[uint64]uint64{}, reserve: -1, mem: slices.Clone(img), met: met}
	for range img {
		m.tags = append(m.tags, -1)
	}
	return m
}

// writer is who of some writes a register last.
func writer(l []*deed, r int) *deed {
	for _, x := range slices.Backward(l) {
		if r != 0 && ops.Target(x.d.Inst) == r {
			return x
		}
	}
	return nil
}

// choices are what a unit can be done to.
func (m *model) choices(unit int) []int {
	var l []int
	switch unit {
	case fetch:
		if m.fetches && len(m.flight) < 12 {
			l = append(l, 0)
		}
	case commit:
		if len(m.flight) > 0 && m.leaves(m.flight[0]) {
			l = append(l, 0)
		}
	case drain:
		for k, e := range m.entries() {
			if e[0].epoch == m.buffer[0].epoch {
				l = append(l, k)
			}
		}
	default:
		for k, x := range m.flight {
			_, a := x.source(0)
			_, b := x.source(1)
			alone := slices.Contains([]int{ops.Upper, ops.Jump, ops.Branch, ops.Number, ops.Pair}, x.sort())
			if unit == execute && alone && !x.reckoned && a && b || unit == address && x.size() > 0 && !x.reckoned && a || unit == load && m.free(k) {
				l = append(l, k)
			}
		}
	}
	return l
}

// entries are the buffer's.
func (m *model) entries() [][]stored {
	var l [][]stored
	for _, w := range m.buffer {
		k := slices.IndexFunc(l, func(e []stored) bool { return e[0].epoch == w.epoch && e[0].Addr/8 == w.Addr/8 })
		if k < 0 {
			l = append(l, nil)
			k = len(l) - 1
		}
		l[k] = append(l[k], w)
	}
	return l
}

// fits says whether there is room for a store.
func (m *model) fits(x *deed) bool {
	l := m.entries()
	for _, e := range l {
		if e[0].epoch == m.epoch && e[0].Addr/8 == int(x.d.Addr)/8 {
			return len(e) < 8
		}
	}
	return len(l) < 4
}

// passed says whether a fence has.
func (m *model) passed(k int) bool {
	i := m.flight[k].d.Inst
	for _, x := range m.flight[:k] {
		if (i.Op == api.TSO || i.Pred&2 != 0) && (x.sort() == ops.Load && !x.bond || x.touches()) {
			return false
		}
		if i.Op == api.FENCE && i.Pred&1 != 0 && (x.sort() == ops.Store || x.touches()) {
			return false
		}
	}
	return i.Op == api.TSO || i.Pred&1 == 0 || len(m.buffer) == 0
}

// source is the last store ahead that has a byte.
func (m *model) source(k int, b uint64) *deed {
	for _, x := range slices.Backward(m.flight[:k]) {
		if x.sort() == ops.Store && x.at(b) {
			return x
		}
	}
	return nil
}

// free says whether a load can be done.
func (m *model) free(k int) bool {
	x := m.flight[k]
	if x.sort() != ops.Load || !x.known() || x.bond {
		return false
	}
	for j, y := range m.flight[:k] {
		i := y.d.Inst
		if y.touches() && (i.Aq || y.shared(x)) || (i.Op == api.TSO || i.Op == api.FENCE && i.Succ&2 != 0) && !m.passed(j) {
			return false
		}
	}
	for b := x.d.Addr; x.at(b); b++ {
		if s := m.source(k, b); s != nil {
			if _, ready := s.source(1); !ready {
				return false
			}
		}
	}
	return true
}

// leaves says whether the oldest one retires.
func (m *model) leaves(x *deed) bool {
	i := x.d.Inst
	_, ready := x.source(1)
	switch {
	case x.d.Cause != 0:
		return true
	case x.sort() == ops.Load:
		return x.bond
	case x.sort() == ops.Store:
		return x.known() && ready && m.fits(x)
	case x.sort() == ops.Fence:
		return !(i.Op == api.FENCE && i.Pred&1 != 0 && i.Succ&2 != 0 && len(m.buffer) > 0)
	case x.touches():
		if !x.known() || i.Rl && len(m.buffer) > 0 {
			return false
		}
		for _, w := range m.buffer {
			for b := w.Addr; b < w.Addr+w.Size; b++ {
				if x.at(uint64(b)) {
					return false
				}
			}
			if w.epoch < m.epoch && x.sort() != ops.Reserve {
				return false
			}
		}
		return ready || x.sort() == ops.Reserve
	}
	return x.reckoned
}

// do does a unit to what stands at a place.
func (m *model) do(unit, at, step int) {
	switch unit {
	case fetch:
		m.fetch()
	case execute:
		m.execute(at)
	case address:
		m.address(at)
	case load:
		m.load(at, step)
	case commit:
		m.commit(step)
	case drain:
		for _, w := range m.entries()[at] {
			m.write(m.number, w.Write)
			m.buffer = slices.DeleteFunc(m.buffer, func(x stored) bool { return x.Id == w.Id })
			for _, x := range m.done {
				if m.id(x) == w.Id {
					x.moment = float64(step)
				}
			}
		}
	}
}

func (m *model) id(x *deed) int { return m.number + 3*x.n }

func (m *model) fetch() {
	x := &deed{n: m.count, moment: moment.Never(), tags: tags(), pair: -1}
	m.count++
	x.d.PC = m.pc
	x.d.Inst, x.d.Cause = seq.Fetch(m.img, m.pc)
	i := x.d.Inst
	if i.Op == api.ECALL || i.Op == api.EBREAK {
		x.d.Cause = 1 + i.Op - api.ECALL
	}
	m.flight = append(m.flight, x)
	if x.d.Cause != 0 {
		m.fetches = false
		return
	}
	for k, r := range []int{i.Rs1, i.Rs2} {
		if x.from[k] = writer(m.flight[:len(m.flight)-1], r); x.from[k] == nil {
			x.from[k] = writer(m.done, r)
		}
		x.first[k] = m.start.X[r]
	}
	number := m.pc / 4 % 16
	to := m.pc + 4
	if c, ok := m.counters[number]; x.sort() == ops.Branch && ok && c >= 2 || i.Op == api.JAL {
		to = m.pc + uint64(i.Imm)
	}
	if target, ok := m.targets[number]; ok && i.Op == api.JALR {
		to = target
	}
	m.pc, x.next = to, to
}

// back takes all from a place on out of flight; it is fetched at another one.
func (m *model) back(at int, pc uint64, why string) {
	m.met[why]++
	m.met["squashed"] += len(m.flight) - at
	m.flight = m.flight[:at]
	m.pc, m.fetches = pc, true
}

func (m *model) execute(at int) {
	x := m.flight[at]
	a, _ := x.source(0)
	b, _ := x.source(1)
	x.reckoned, x.has = true, true
	if ops.Target(x.d.Inst) != 0 {
		x.d.Val = alu.Result(x.d.Inst, x.d.PC, a, b)
	}
	if next := alu.Next(x.d.Inst, x.d.PC, a, b); next != x.next {
		x.next = next
		m.back(at+1, next, "gone elsewhere")
	}
}

func (m *model) address(at int) {
	x := m.flight[at]
	a, _ := x.source(0)
	x.reckoned = true
	x.d.Addr = alu.Address(x.d.Inst, a)
	if x.d.Addr%uint64(x.size()) != 0 {
		x.d.Cause = api.CauseAlign
	} else if x.d.Addr >= uint64(len(m.img)) || x.d.Addr+uint64(x.size()) > uint64(len(m.img)) {
		x.d.Cause = api.CauseRange
	}
	for k := at + 1; x.sort() != ops.Load && k < len(m.flight); k++ {
		if y := m.flight[k]; y.bond && y.shared(x) {
			m.back(k, y.d.PC, "clashed")
			return
		}
	}
}

func (m *model) load(at, step int) {
	x := m.flight[at]
	x.bond, x.has, x.moment = true, true, float64(step)
	kinds := map[string]bool{}
	for k := range x.size() {
		b := x.d.Addr + uint64(k)
		v, kind := m.mem[b], "memory"
		x.tags[k] = m.tags[b]
		for _, w := range m.buffer {
			if uint64(w.Addr) <= b && b < uint64(w.Addr+w.Size) {
				v, kind = byte(w.Data>>(8*(b-uint64(w.Addr)))), "buffer"
				x.tags[k] = w.Id
			}
		}
		if s := m.source(at, b); s != nil {
			data, _ := s.source(1)
			v, kind = byte(data>>(8*(b-s.d.Addr))), "flight"
			x.tags[k] = m.id(s)
		}
		kinds[kind] = true
		x.d.Read |= uint64(v) << (8 * k)
	}
	if len(kinds) > 1 {
		m.met["mixed"]++
	}
	for k := range kinds {
		m.met[k]++
	}
	m.valued(x, alu.Loaded(x.d.Inst.Op, x.d.Read))
	hidden := map[uint64]bool{}
	for k := at + 1; k < len(m.flight); k++ {
		y := m.flight[k]
		for b := x.d.Addr; x.at(b); b++ {
			if y.bond && y.at(b) && !hidden[b] && y.tags[b-y.d.Addr] != x.tags[b-x.d.Addr] {
				m.back(k, y.d.PC, "reordered")
				return
			}
		}
		for b := x.d.Addr; x.at(b); b++ {
			hidden[b] = hidden[b] || y.sort() == ops.Store && y.at(b)
		}
	}
}

// valued gives a deed what it writes.
func (m *model) valued(x *deed, v uint64) {
	x.has = true
	if ops.Target(x.d.Inst) != 0 {
		x.d.Val = v
	}
}

func (m *model) commit(step int) {
	x := m.flight[0]
	m.flight = m.flight[1:]
	m.done = append(m.done, x)
	if x.d.Cause != 0 {
		m.met["halted"]++
		if len(m.flight) > 0 {
			m.met["halted ahead"]++
		}
		m.flight = nil
		m.fetches = false
		m.end.Cause, m.end.PC = x.d.Cause, x.d.PC
		return
	}
	m.retire(x, step)
	m.end.PC = x.next
	i, number := x.d.Inst, x.d.PC/4%16
	if i.Op == api.JALR {
		m.targets[number] = x.next
	}
	if x.sort() == ops.Branch && i.Imm != 4 {
		c, ok := m.counters[number]
		if !ok {
			c = 1
		}
		if x.next == x.d.PC+uint64(i.Imm) {
			c = min(3, c+1)
		} else {
			c = max(0, c-1)
		}
		m.counters[number] = c
	}
}

// retire does what is left of the oldest one.
func (m *model) retire(x *deed, step int) {
	i := x.d.Inst
	b, _ := x.source(1)
	place := api.Write{Addr: int(x.d.Addr), Size: x.size()}
	switch x.sort() {
	case ops.Store:
		x.d.Wrote = alu.Stored(i.Op, 0, b)
		x.moment = moment.Later()
		m.buffer = append(m.buffer, stored{api.Write{Id: m.id(x), Addr: place.Addr, Size: place.Size, Data: x.d.Wrote}, m.epoch})
	case ops.Fence:
		elder := slices.ContainsFunc(m.buffer, func(w stored) bool { return w.epoch == m.epoch })
		if elder && (i.Op == api.TSO || i.Pred&1 != 0 && i.Succ&1 != 0) {
			m.met["barrier"]++
			m.epoch++
		}
	case ops.Reserve, ops.Atomic:
		x.moment = float64(step)
		for k := range x.size() {
			x.d.Read |= uint64(m.mem[place.Addr+k]) << (8 * k)
			x.tags[k] = m.tags[place.Addr+k]
		}
		m.valued(x, alu.Loaded(i.Op, x.d.Read))
		if x.sort() == ops.Reserve {
			m.held, m.reserve = place, m.id(x)
			return
		}
		x.d.Wrote = alu.Stored(i.Op, x.d.Read, b)
		m.write(m.number, api.Write{Id: m.id(x), Addr: place.Addr, Size: place.Size, Data: x.d.Wrote})
	case ops.Conditional:
		if m.held == place {
			m.met["paired"]++
			x.moment = float64(step)
			x.d.Wrote = alu.Stored(i.Op, 0, b)
			x.pair = m.reserve
			m.write(m.number, api.Write{Id: m.id(x), Addr: place.Addr, Size: place.Size, Data: x.d.Wrote})
			m.valued(x, 0)
		} else {
			m.met["failed"]++
			x.d.Failed = true
			m.valued(x, 1)
		}
		m.held = api.Write{}
	}
}

// write lets the memory have a store of a hart.
func (m *model) write(hart int, w api.Write) {
	w.Data = low(w.Data, w.Size)
	m.log = append(m.log, w)
	for k := range w.Size {
		b := w.Addr + k
		m.mem[b], m.tags[b] = byte(w.Data>>(8*k)), w.Id
		if hart != m.number && m.held.Addr <= b && b < m.held.Addr+m.held.Size {
			m.met["taken apart"]++
			m.held = api.Write{}
		}
	}
}

// all is all that the model tells.
func (m *model) all() kept {
	k := kept{hart: m.end, bytes: m.mem, tags: m.tags, log: m.log, quiet: m.end.Cause != 0 && len(m.buffer) == 0}
	for r := range k.hart.X {
		k.hart.X[r] = m.start.X[r]
		if x := writer(m.done, r); x != nil && x.d.Cause == 0 {
			k.hart.X[r] = x.d.Val
		} else if x != nil { // the last one has halted the hart
			if x = writer(m.done[:len(m.done)-1], r); x != nil {
				k.hart.X[r] = x.d.Val
			}
		}
	}
	for _, x := range m.done {
		k.retired = append(k.retired, api.Retired{Done: x.d, Id: m.id(x), Moment: x.moment, Tags: x.tags, Pair: x.pair})
	}
	for _, x := range m.flight {
		i := x.d.Inst
		s := api.Slot{Op: i.Op, Pred: i.Pred, Succ: i.Succ, Aq: i.Aq, Id: m.id(x), Known: x.known(), Bound: x.bond, Tags: x.tags}
		if s.Known {
			s.Addr = int(x.d.Addr)
		}
		if b, ready := x.source(1); ready && ops.Stores(i.Op) {
			s.Ready = true
			if x.sort() == ops.Store {
				s.Data = low(b, x.size())
			}
		}
		k.flight = append(k.flight, s)
	}
	for _, e := range m.entries() {
		var l []api.Write
		for _, w := range e {
			l = append(l, w.Write)
		}
		k.stores = append(k.stores, l)
	}
	for unit := range k.choices {
		k.choices[unit] = m.choices(unit)
	}
	return k
}

// P17.1 to P17.3: drawn programs, by drawn picks, while other harts write: all that is told is the model's at every time.
func TestModel(t *testing.T) {
	met := map[string]int{}
	for seed := range 5000 {
		d := draw(seed)
		number, h, img := d.of(api.Harts), d.hart(), d.image()
		b := &bench{Core: core.New(number, h, img), t: t, m: ram.New(img), start: h, img: img}
		m := newModel(number, h, img, met)
		style := d.style()
		for step := range 60 + d.of(400) {
			if w, hart := d.others(number, step); d.of(style.others) == 0 && b.m.Store(hart, w) {
				m.write(hart, w)
			}
			unit := style.pick(&d)
			k, l := d.of(3), m.choices(unit)
			if len(l) > 0 && d.of(20) > 0 {
				k = d.of(len(l))
			}
			done := b.Do(unit, k, b.m, step)
			if done != (k < len(l)) {
				t.Fatal(seed, step, unit, k, done)
			}
			if done {
				m.do(unit, l[k], step)
			}
			if (done || step == 0) && !b.all().alike(t, m.all(), seed, step, unit, k) {
				return
			}
		}
	}
	for _, what := range []string{"gone elsewhere", "clashed", "reordered", "squashed", "mixed", "memory", "buffer", "flight", "halted", "halted ahead", "barrier", "paired", "failed", "taken apart"} {
		if met[what] < 50 {
			t.Error(what, "came", met[what], "times")
		}
	}
}
