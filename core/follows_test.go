package core_test

import (
	"slices"
	"testing"

	"undertow/api"
	"undertow/core"
	"undertow/seq"
)

// drawnBench is a bench of a drawn hart and image.
func drawnBench(t *testing.T, d *draw) *bench {
	t.Helper()
	number, h, img := d.of(api.Harts), d.hart(), d.image()
	return on(t, number, h, img)
}

// able are the units that can be done.
func (b *bench) able() []int {
	var l []int
	for unit := range api.Units {
		if len(b.Choices(unit)) > 0 {
			l = append(l, unit)
		}
	}
	return l
}

// any does a drawn unit of some to something.
func (b *bench) any(d *draw, units ...int) {
	b.t.Helper()
	unit := drawn(d, units...)
	if !b.Do(unit, d.of(len(b.Choices(unit))), b.m, b.step) {
		b.t.Fatal("not done", unit)
	}
	b.step++
}

// P17.4: at every time what retired is the program's own, and the hart is where that brought it, whatever other harts write.
func TestOwn(t *testing.T) {
	retired, halted := 0, 0
	for seed := range 1000 {
		d := draw(1<<32 + seed)
		b := drawnBench(t, &d)
		number := d.of(api.Harts)
		for range 200 {
			if w, hart := d.others(number, b.step); d.of(4) == 0 {
				b.m.Store(hart, w)
			}
			units := b.able()
			if len(units) == 0 {
				break
			}
			b.any(&d, units...)
			b.own()
			if t.Failed() {
				t.Fatal(seed, b.step)
			}
		}
		retired += len(b.Retired())
		if b.Quiet() {
			halted++
		}
	}
	if retired < 5000 || halted < 500 {
		t.Error(retired, halted)
	}
}

// P17.5: a hart that runs has a unit that can be done, but Drain, or one that Drain lets be done; of what is in flight the oldest one goes by retiring alone.
func TestNeverStuck(t *testing.T) {
	drained := 0
	for seed := range 2000 {
		d := draw(2<<32 + seed)
		b := drawnBench(t, &d)
		style := d.style()
		for range 150 {
			if w, hart := d.others(1, b.step); d.of(8) == 0 {
				b.m.Store(hart, w)
			}
			units := slices.DeleteFunc(b.able(), func(unit int) bool { return unit == drain && style.often[drain] == 1 })
			for k := 0; b.Hart().Cause == 0 && (len(units) == 0 || slices.Equal(units, []int{drain})); k++ {
				if k == 5 || len(b.Choices(drain)) == 0 {
					t.Fatal(seed, "is stuck", b.Flight(), b.Stores())
				}
				b.any(&d, drain)
				drained++
				units = slices.DeleteFunc(b.able(), func(unit int) bool { return unit == drain })
			}
			if len(units) == 0 {
				break
			}
			was, n := b.Flight(), len(b.Retired())
			b.any(&d, units...)
			if now := b.Flight(); len(b.Retired()) == n && len(was) > 0 && (len(now) == 0 || now[0].Id != was[0].Id) {
				t.Fatal(seed, "the oldest one is gone", was, now)
			}
		}
	}
	if drained < 100 {
		t.Error("Drain alone was left", drained, "times")
	}
}

// P17.5: whatever one unit is left out for as long as another one can be done, the hart comes to its end.
func TestLeftOut(t *testing.T) {
	for seed := range 300 {
		for last := range api.Units {
			d := draw(3<<32 + seed)
			b := drawnBench(t, &d)
			_, _, l := seq.Alone(b.start, b.img, 60)
			for len(b.Retired()) < len(l) {
				units := b.able()
				if len(units) == 0 {
					t.Fatal(seed, last, "is stuck")
				}
				if rest := slices.DeleteFunc(slices.Clone(units), func(unit int) bool { return unit == last }); len(rest) > 0 {
					units = rest
				}
				b.any(&d, units...)
				if b.step > 20_000 {
					t.Fatal(seed, last, "has no end")
				}
			}
		}
	}
}

// P17.6: whatever units are done, a hart that is alone and has come to rest is what the sequential meaning makes of it, and so is the memory.
func TestAlone(t *testing.T) {
	halts := map[int]int{}
	for seed := range 3000 {
		d := draw(4<<32 + seed)
		b := drawnBench(t, &d)
		h, mem, l := seq.Alone(b.start, b.img, 100)
		if h.Cause == 0 {
			continue
		}
		style := d.style()
		for !b.Quiet() {
			unit := style.pick(&d)
			if n := len(b.Choices(unit)); n > 0 {
				b.any(&d, unit)
			}
			if b.step > 20_000 {
				t.Fatal(seed, "has no end")
			}
		}
		if b.Hart() != h || !slices.Equal(b.m.Bytes(), mem) {
			t.Fatal(seed, b.Hart(), h, b.m.Bytes(), mem)
		}
		if !slices.EqualFunc(b.Retired(), l, func(r api.Retired, d api.Done) bool { return r.Done == d }) {
			t.Fatal(seed, b.Retired(), l)
		}
		halts[h.Cause]++
	}
	for _, cause := range []int{api.CauseCall, api.CauseBreak, api.CauseIllegal, api.CauseFetch, api.CauseAlign, api.CauseRange} {
		if halts[cause] < 10 {
			t.Error("cause", cause, "came", halts[cause], "times")
		}
	}
}

// P17.6: all ways in which the units of a short program can be done come to the same, but for the moments.
func TestAllWays(t *testing.T) {
	for _, program := range []string{
		"addi x2, x0, 64\nsw x1, 0(x2)\nlw x3, 64(x0)\nhalt",
		"sw x1, 64(x0)\nfence rw, rw\nlw x3, 64(x0)\nhalt",
		"lr.w x3, (x4)\nsc.w x5, x1, (x4)\nlw x6, 64(x0)\nhalt",
		"beq x0, x0, 8\nsw x1, 64(x0)\nlw x3, 64(x0)\nhalt",
		"amoadd.w x3, x1, (x4)\nsb x1, 65(x0)\nlw x5, 64(x0)\nhalt",
	} {
		first := begin(t, program, api.Hart{X: [32]uint64{1: 7, 4: 64}})
		h, mem, l := seq.Alone(first.start, first.img, 100)
		ways := 0
		// A way is which of all that could be done was done, each time; behind each the next one is tried.
		for way := []int{}; way != nil; {
			b := on(t, 0, first.start, first.img)
			var many []int // how many things could be done
			for k := 0; !b.Quiet(); k++ {
				all := b.each()
				if k == len(way) {
					way = append(way, 0)
				}
				many = append(many, len(all))
				if len(all) == 0 || k > 60 {
					t.Fatal(program, way, "is stuck")
				}
				b.at(all[way[k]].unit, all[way[k]].place)
			}
			if b.Hart() != h || !slices.Equal(b.m.Bytes(), mem) || !slices.EqualFunc(b.Retired(), l, func(r api.Retired, d api.Done) bool { return r.Done == d }) {
				t.Fatal(program, way, b.Hart(), b.Retired())
			}
			way = following(way, many)
			ways++
			if ways > 1<<17 {
				t.Fatal(program, "has too many ways")
			}
		}
		if ways < 100 {
			t.Error(program, ways)
		}
	}
}

// a thing is a unit, and what it can be done to.
type thing struct{ unit, place int }

// each is all that can be done.
func (b *bench) each() []thing {
	var l []thing
	for unit := range api.Units {
		for _, place := range b.Choices(unit) {
			l = append(l, thing{unit, place})
		}
	}
	return l
}

// following is the way behind another one; nil behind the last.
func following(way, many []int) []int {
	for k := len(way) - 1; k >= 0; k-- {
		if way[k]+1 < many[k] {
			return append(slices.Clone(way[:k]), way[k]+1)
		}
	}
	return nil
}

// P17.1 to P17.3: the same units come to the same.
func TestAgain(t *testing.T) {
	for seed := range 100 {
		var told [2]kept
		for k := range told {
			d := draw(5<<32 + seed)
			b := drawnBench(t, &d)
			for range 100 {
				if units := b.able(); len(units) > 0 {
					b.any(&d, units...)
				}
			}
			told[k] = b.all()
		}
		told[0].alike(t, told[1], seed)
	}
}

// P17.1: what is in flight and in the buffer has at most as many as there is room for.
func TestRoom(t *testing.T) {
	full := 0
	for seed := range 300 {
		d := draw(6<<32 + seed)
		b := drawnBench(t, &d)
		for range 150 {
			if units := b.able(); len(units) > 0 {
				b.any(&d, append(units, units[0])...)
			}
			if n := len(b.Flight()); n > core.Rob || len(b.Stores()) > 4 {
				t.Fatal(seed, n)
			} else if n == core.Rob {
				full++
			}
		}
	}
	if full < 20 {
		t.Error(full)
	}
}
