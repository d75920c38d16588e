package soc_test

import (
	"testing"

	"undertow/api"
	"undertow/core"
	"undertow/ram"
)

// A model is a machine whose cores and memory the tests drive by themselves.
type model struct {
	cores  [api.Harts]*core.Core
	memory *ram.Ram
	steps  int
}

func newModel(h [api.Harts]api.Hart, img []byte) *model {
	return &model{[api.Harts]*core.Core{core.New(0, h[0], img), core.New(1, h[1], img), core.New(2, h[2], img)}, ram.New(img), 0}
}

// step is what the model does by a pick.
func (m *model) step(p api.Pick) bool {
	m.steps++
	if p.Core < 0 || p.Core > 2 || p.Unit < 0 || p.Unit > 5 {
		return false
	}
	c := m.cores[p.Core]
	k := chosen(len(c.Choices(p.Unit)), p.At)
	return k >= 0 && c.Do(p.Unit, k, m.memory, m.steps-1)
}

// tell is all that the model tells.
func (m *model) tell() toldMachine {
	a := toldMachine{bytes: m.memory.Bytes(), log: m.memory.Log(), steps: m.steps, finished: true}
	for n, c := range m.cores {
		a.cores[n] = toldCore{hart: c.Hart(), retired: c.Retired(), flight: c.Flight(), stores: c.Stores()}
		for unit := range api.Units {
			a.cores[n].choices[unit] = c.Choices(unit)
		}
		a.finished = a.finished && c.Quiet()
	}
	return a
}

// P18.1, P18.2: drawn programs, by drawn picks: all that is told is the model's at every time.
func TestModel(t *testing.T) {
	done, undone, finished := 0, 0, 0
	for seed := range 1000 {
		d := draw(2<<32 + seed)
		h, img := d.harts(together), d.image(together)
		m, twin, style := made(t, h, img), newModel(h, img), d.style()
		for range 100 + d.of(500) {
			p := d.any()
			if d.of(2) == 0 {
				p = style.pick(&d)
			}
			did := m.Step(p)
			if did != twin.step(p) {
				t.Fatal(seed, m.Steps(), p, did)
			}
			if did {
				done++
			} else if undone++; undone%8 != 0 {
				continue
			}
			if what := tell(m).unlike(twin.tell()); what != "" {
				t.Fatal(seed, m.Steps(), p, what)
			}
		}
		if m.Finished() {
			finished++
		}
	}
	if done < 50_000 || undone < 50_000 || finished < 100 {
		t.Error(done, undone, finished)
	}
}
