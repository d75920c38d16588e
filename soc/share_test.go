package soc_test

import (
	"slices"
	"testing"

	"undertow/api"
	"undertow/soc"
)

// pairs are two of the cores, in each order.
func pairs() [][2]int {
	var l [][2]int
	for a := range api.Harts {
		for b := range api.Harts {
			if a != b {
				l = append(l, [2]int{a, b})
			}
		}
	}
	return l
}

// of are harts' sources: one is a's, another one b's; the third hart has halt.
func of(a, b int, source, other string) []string {
	l := slices.Repeat([]string{"halt"}, api.Harts)
	l[a], l[b] = source, other
	return l
}

// tags are some, and -1 behind them.
func tags(l ...int) [8]int {
	t := [8]int{-1, -1, -1, -1, -1, -1, -1, -1}
	copy(t[:], l)
	return t
}

// P18.5: what a core stores another one loads once it reached memory; neither turns anything else of the other.
func TestStored(t *testing.T) {
	for _, p := range pairs() {
		a, b := p[0], p[1]
		m := begin(t, [32]uint64{1: 7, 2: 8}, of(a, b, "sw x1, 96(x0)\nsw x2, 100(x0)\nnop\nsw x1, 112(x0)\nhalt", "sw x2, 104(x0)\nlw x3, 96(x0)\nlw x4, 96(x0)\nlw x5, 104(x0)\nhalt")...)
		play(t, m, a, fetch, fetch, fetch, fetch, address, address, address)
		play(t, m, b, fetch, fetch, fetch, fetch, fetch, address, address, address, address, commit)
		works := func(core int, units ...int) {
			t.Helper()
			for _, unit := range units {
				was := [api.Harts]toldCore{tellCore(m, 0), tellCore(m, 1), tellCore(m, 2)}
				play(t, m, core, unit)
				for n := range was {
					if what := tellCore(m, n).unlike(was[n]); (what == "") == (n == core) {
						t.Error(p, "core", core, "unit", unit, "turned of core", n, what)
					}
				}
			}
		}
		works(a, commit, commit)        // its stores are in its buffer
		works(b, load, commit)          // of what was there at first
		works(a, drain, execute)        // both stores reach memory
		works(b, load, commit, load)    // of the other's store; and of its own one, which is in its buffer
		works(a, commit, commit)        // its third store
		works(b, commit, commit, drain) // it has halted
		works(a, fetch, commit, drain)  // it, too
		if h := m.Hart(b); h.X[3] != 0 || h.X[4] != 7 || h.X[5] != 8 {
			t.Error(p, h)
		}
		if l := m.Retired(b); l[1].Tags != tags() || l[2].Tags != tags(a, a, a, a) || l[3].Tags != tags(b, b, b, b) {
			t.Error(p, l)
		}
		want := []api.Write{{Id: a, Addr: 96, Size: 4, Data: 7}, {Id: a + 3, Addr: 100, Size: 4, Data: 8}, {Id: b, Addr: 104, Size: 4, Data: 8}, {Id: a + 9, Addr: 112, Size: 4, Data: 7}}
		if !slices.Equal(m.Log(), want) {
			t.Error(p, m.Log())
		}
	}
}

// P18.5: a load that is bound stays so, whatever the other one stores there; what hasn't reached memory no other one loads.
func TestBoundStays(t *testing.T) {
	for _, p := range pairs() {
		a, b := p[0], p[1]
		m := begin(t, [32]uint64{1: 7}, of(a, b, "sw x1, 96(x0)\nhalt", "lw x3, 100(x0)\nlw x2, 96(x0)\nlw x4, 96(x0)\nhalt")...)
		play(t, m, b, fetch, fetch, fetch, fetch, address, address, address)
		play(t, m, a, fetch, address, commit)
		if !m.Step(api.Pick{Core: b, Unit: load, At: 1}) {
			t.Fatal(p)
		}
		rush(m, a, append(slices.Clone(all), drain)...)
		rush(m, b, all...)
		if h := m.Hart(b); h.X[2] != 0 || h.X[4] != 7 || h.Cause != api.CauseBreak {
			t.Error(p, h)
		}
	}
}

// reserved is a machine two of whose harts are about to retire an LR and an SC of their own places, in x4 and in x5.
func reserved(t *testing.T, a, b int, first, second string) *soc.Machine {
	t.Helper()
	m := begin(t, [32]uint64{3: 9, 4: 96, 5: 100, 6: 104}, of(a, b, first, second)...)
	for _, n := range []int{a, b} {
		play(t, m, n, fetch, fetch, fetch, address, address)
	}
	return m
}

// outcome is what came of a core's conditional one: 1, if it failed.
func outcome(t *testing.T, m *soc.Machine, n int) uint64 {
	t.Helper()
	l := m.Retired(n)
	if len(l) < 2 {
		t.Fatal("core", n, "has retired", l)
	}
	r, x := l[1], m.Hart(n).X[2]
	pair := n
	if x == 1 {
		pair = -1
	}
	if r.Done.Failed != (x == 1) || r.Pair != pair {
		t.Error("core", n, x, r)
	}
	return x
}

// P18.1, P18.5: of two cores that reserve one place and store there if they hold it, all orders: who stores first takes the other's reservation away.
func TestReservations(t *testing.T) {
	const source = "lr.w x1, (x4)\nsc.w x2, x3, (x4)\nhalt"
	for _, p := range pairs() {
		a, b := p[0], p[1]
		for _, c := range []struct {
			order              [4]int
			failsOfA, failsOfB uint64
		}{
			{[4]int{a, a, b, b}, 0, 0},
			{[4]int{a, b, a, b}, 0, 1},
			{[4]int{a, b, b, a}, 1, 0},
			{[4]int{b, a, a, b}, 0, 1},
			{[4]int{b, a, b, a}, 1, 0},
			{[4]int{b, b, a, a}, 0, 0},
		} {
			m := reserved(t, a, b, source, source)
			for _, n := range c.order {
				play(t, m, n, commit)
			}
			if outcome(t, m, a) != c.failsOfA || outcome(t, m, b) != c.failsOfB {
				t.Error(p, c.order, m.Hart(a).X[2], m.Hart(b).X[2])
			}
			if l := m.Log(); len(l) != int(2-c.failsOfA-c.failsOfB) {
				t.Error(p, c.order, l)
			}
		}
	}
}

// P18.1, P18.5: a store takes another's reservation away just where it overlaps.
func TestReservationsOverlap(t *testing.T) {
	places := []struct{ op, place string }{{"w", "(x4)"}, {"w", "(x5)"}, {"d", "(x4)"}, {"w", "(x6)"}, {"d", "(x6)"}}
	meets := [5][5]uint64{{1, 0, 1, 0, 0}, {0, 1, 1, 0, 0}, {1, 1, 1, 0, 0}, {0, 0, 0, 1, 1}, {0, 0, 0, 1, 1}}
	for _, p := range pairs() {
		for i, x := range places {
			for j, y := range places {
				m := reserved(t, p[0], p[1], "lr."+x.op+" x1, "+x.place+"\nsc."+x.op+" x2, x3, "+x.place+"\nhalt", "lr."+y.op+" x1, "+y.place+"\nsc."+y.op+" x2, x3, "+y.place+"\nhalt")
				for _, n := range []int{p[0], p[1], p[0], p[1]} {
					play(t, m, n, commit)
				}
				if outcome(t, m, p[0]) != 0 || outcome(t, m, p[1]) != meets[i][j] {
					t.Error(p, x, y, m.Hart(p[1]).X[2])
				}
			}
		}
	}
}

// P18.1: three cores that each add one to a place, at once or by a reservation that is tried again, lose none, by whatever picks.
func TestAdded(t *testing.T) {
	for _, source := range []string{"amoadd.w x2, x1, (x4)\nhalt", "lr.w x2, (x4)\nadd x2, x2, x1\nsc.w x3, x2, (x4)\nbne x3, x0, -12\nhalt"} {
		failed := 0
		for seed := range 100 {
			d := draw(1<<32 + seed)
			m := begin(t, [32]uint64{1: 1, 4: 96}, source, source, source)
			for !m.Finished() {
				m.Step(d.pick())
				if m.Steps() > 100_000 {
					t.Fatal(source, seed, "has no end")
				}
			}
			if m.Bytes()[96] != api.Harts || len(m.Log()) != api.Harts {
				t.Error(source, seed, m.Bytes()[96])
			}
			for n := range api.Harts {
				failed += len(m.Retired(n)) - 2
			}
		}
		if failed == 0 && source[0] == 'l' {
			t.Error("none was tried again")
		}
	}
}

// P18.2: each core is told by its own number: a store of each, all in flight, in the buffers, and in the log.
func TestNumbered(t *testing.T) {
	m := begin(t, [32]uint64{1: 7}, "sw x1, 96(x0)\nhalt", "nop\nsw x1, 104(x0)\nhalt", "nop\nnop\nsw x1, 112(x0)\nhalt")
	for n := range api.Harts {
		play(t, m, n, slices.Repeat([]int{fetch}, n+1)...)
		play(t, m, n, address)
		l := m.Flight(n)
		if len(l) != n+1 || l[n].Id != n+3*n || l[n].Addr != 96+8*n || !slices.Equal(m.Choices(n, execute), []int{0, 1, 2}[:n]) {
			t.Error(n, l)
		}
		rush(m, n, execute, commit)
		if s := m.Stores(n); len(s) != 1 || len(s[0]) != 1 || s[0][0] != (api.Write{Id: 4 * n, Addr: 96 + 8*n, Size: 4, Data: 7}) || len(m.Retired(n)) != n+1 {
			t.Error(n, s)
		}
	}
	for k, n := range []int{2, 0, 1} {
		play(t, m, n, drain)
		if l := m.Log(); len(l) != k+1 || l[k].Id != 4*n || len(m.Stores(n)) != 0 {
			t.Error(n, l)
		}
	}
}
