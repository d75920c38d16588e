package names_test

import (
	"math"
	"testing"

	"undertow/names"
)

// A draw is a row of numbers that is always the same one.
type draw uint64

func (d *draw) word() uint64 {
	*d += 0x9e37_79b9_7f4a_7c15
	x := uint64(*d)
	x = (x ^ x>>30) * 0xbf58_476d_1ce4_e5b9
	x = (x ^ x>>27) * 0x94d0_49bb_1331_11eb
	return x ^ x>>31
}

func (d *draw) of(n int) int { return int(d.word() % uint64(n)) }

// A place is a cell that a register has: since when, and what is in it.
type place struct {
	cell, since int
	v           uint64
	ready       bool
}

// A model has of each register the cells that it has, the settled one first.
type model struct {
	of   [32][]place
	time int
}

func modelOf(x [32]uint64) *model {
	m := &model{}
	for r, v := range x {
		m.of[r] = []place{{cell: r, v: v, ready: true}}
	}
	m.of[0][0].v = 0
	return m
}

// at is the place of a cell; nil, if it is free or there is none; settled says whether it is a register's first one.
func (m *model) at(c int) (p *place, settled bool) {
	for r := range m.of {
		for k := range m.of[r] {
			if m.of[r][k].cell == c {
				return &m.of[r][k], k == 0
			}
		}
	}
	return nil, false
}

// end is the register whose claim is the first of all, or the last of all; -1, if there is none.
func (m *model) end(last bool) int {
	found, when := -1, 0
	for r, l := range m.of {
		for _, p := range l[1:] {
			if found < 0 || p.since < when != last {
				found, when = r, p.since
			}
		}
	}
	return found
}

func (m *model) claims() int {
	n := 0
	for _, l := range m.of {
		n += len(l) - 1
	}
	return n
}

func (m *model) claim(r int) (int, bool) {
	if r < 1 || r > 31 {
		return 0, false
	}
	for c := range 44 {
		if p, _ := m.at(c); p == nil {
			m.time++
			m.of[r] = append(m.of[r], place{cell: c, since: m.time})
			return c, true
		}
	}
	return 0, false
}

func (m *model) set(c int, v uint64) bool {
	p, settled := m.at(c)
	if p == nil || settled {
		return false
	}
	p.v, p.ready = v, true
	return true
}

func (m *model) retire() bool {
	r := m.end(false)
	if r < 0 || !m.of[r][1].ready {
		return false
	}
	m.of[r] = m.of[r][1:]
	return true
}

func (m *model) undo() bool {
	r := m.end(true)
	if r < 0 {
		return false
	}
	m.of[r] = m.of[r][:len(m.of[r])-1]
	return true
}

// picture is all that the model tells.
func (m *model) picture() picture {
	p := picture{claims: m.claims()}
	for r, l := range m.of {
		p.look[r+1], p.values[r] = l[len(l)-1].cell, l[0].v
		for _, q := range l {
			if q.ready {
				p.value[q.cell+1], p.ready[q.cell+1] = q.v, true
			}
		}
	}
	return p
}

// A pair is names and a model of them, to which the same is done.
type pair struct {
	n *names.Names
	m *model
}

func pairOf(x [32]uint64) pair { return pair{names.New(x), modelOf(x)} }

// check holds all that names tell against the model.
func (p pair) check(t *testing.T) {
	t.Helper()
	if got, want := taken(p.n), p.m.picture(); got != want {
		t.Fatalf("%+v, not %+v", got, want)
	}
}

func (p pair) claim(t *testing.T, r int) {
	t.Helper()
	room := p.n.Claims() < 12 && r > 0 && r < 32
	c, ok := p.n.Claim(r)
	if d, is := p.m.claim(r); c != d || ok != is || ok != room {
		t.Fatalf("Claim(%d): %d %v, not %d %v", r, c, ok, d, is)
	}
	p.check(t)
}

func (p pair) set(t *testing.T, c int, v uint64) {
	t.Helper()
	if ok, is := p.n.Set(c, v), p.m.set(c, v); ok != is {
		t.Fatalf("Set(%d): %v", c, ok)
	}
	p.check(t)
}

func (p pair) retire(t *testing.T) {
	t.Helper()
	if ok, is := p.n.Retire(), p.m.retire(); ok != is {
		t.Fatalf("Retire: %v", ok)
	}
	p.check(t)
}

func (p pair) undo(t *testing.T) {
	t.Helper()
	if ok, is := p.n.Undo(), p.m.undo(); ok != is {
		t.Fatalf("Undo: %v", ok)
	}
	p.check(t)
}

// drawnNumbers are those of all registers.
func drawnNumbers(d *draw) [32]uint64 {
	var x [32]uint64
	for r := range x {
		x[r] = d.word()
	}
	return x
}

// P15.1 to P15.4: rows of many drawn deeds, of few registers and of many; in each some deeds come oftener than others, so that there are seldom many claims in some and mostly in others.
func TestModel(t *testing.T) {
	d := draw(15)
	for range 60 {
		p := pairOf(drawnNumbers(&d))
		registers, often := 1+d.of(33), 1+d.of(4)
		for range 300 {
			switch k := d.of(often + 6); {
			case k < often:
				p.claim(t, d.of(registers))
			case k < often+3:
				p.set(t, d.of(46)-1, d.word()>>(d.of(65)))
			case k == often+3:
				p.set(t, p.n.Look(d.of(32)), d.word())
			case k == often+4:
				p.retire(t)
			default:
				p.undo(t)
			}
		}
	}
}

// P15.1 to P15.3: every row of six of six deeds.
func TestRows(t *testing.T) {
	deeds := []func(p pair, v uint64){
		func(p pair, v uint64) { p.claim(t, 1) },
		func(p pair, v uint64) { p.claim(t, 31) },
		func(p pair, v uint64) { p.set(t, p.n.Look(1), v) },
		func(p pair, v uint64) { p.set(t, 32, v) },
		func(p pair, v uint64) { p.retire(t) },
		func(p pair, v uint64) { p.undo(t) },
	}
	for row := range 6 * 6 * 6 * 6 * 6 * 6 {
		p := pairOf(numbers())
		for k := range 6 {
			deeds[row%6](p, uint64(k))
			row /= 6
		}
	}
}

// P15.2 to P15.4: what can't be done, by wrong registers and cells, turns nothing at any time.
func TestWrong(t *testing.T) {
	d := draw(151)
	p := pairOf(drawnNumbers(&d))
	for k := range 200 {
		p.claim(t, 1+d.of(31))
		p.set(t, 32+d.of(12), d.word())
		if k%3 > 0 {
			p.retire(t)
		}
		refused(t, p.n, 0, -1, 32, 44, math.MaxInt, math.MinInt)
		unset(t, p.n, -1, 44, 45, math.MaxInt, math.MinInt)
		p.check(t)
	}
}

// P15.4: with fewer than twelve claims a cell is free; what is claimed and undone leaves all as it was, how many they are, set or not.
func TestClaimedAndUndone(t *testing.T) {
	d := draw(152)
	for range 200 {
		n := names.New(drawnNumbers(&d))
		for range d.of(40) { // some are settled elsewhere
			if c, ok := n.Claim(1 + d.of(31)); ok && n.Set(c, d.word()) && d.of(4) > 0 {
				n.Retire()
			}
		}
		before := taken(n)
		some := 0
		for before.claims+some < 12 && d.of(9) > 0 {
			c, ok := n.Claim(1 + d.of(31))
			if !ok {
				t.Fatalf("%d claims, and no cell is free", n.Claims())
			}
			if d.of(2) > 0 {
				n.Set(c, d.word())
			}
			some++
		}
		undo(t, n, some, before.claims)
		if now := taken(n); now != before {
			t.Fatalf("%+v, not %+v", now, before)
		}
	}
}

// P15.5: behind claims that are set, in whatever order, some more than once, and retired Values has the last ones that were set.
func TestSetAndRetired(t *testing.T) {
	d := draw(153)
	n, want := names.New(numbers()), settled(nil)
	for range 500 {
		var cells, registers []int
		for range 1 + d.of(12) {
			r := 1 + d.of(31)
			c, ok := n.Claim(r)
			if !ok {
				t.Fatalf("Claim(%d): false", r)
			}
			cells, registers = append(cells, c), append(registers, r)
		}
		last := map[int]uint64{}
		for len(last) < len(cells) {
			k := d.of(len(cells))
			last[k] = d.word()
			set(t, n, cells[k], last[k])
		}
		for k, r := range registers {
			want[r] = last[k]
		}
		retire(t, n, len(cells), 0)
		values(t, n, want)
	}
}
