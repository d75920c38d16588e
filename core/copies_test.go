package core_test

import (
	"slices"
	"testing"

	"undertow/api"
	"undertow/core"
	"undertow/ram"
)

// whole is a list with its spare room.
func whole[T any](l []T) []T { return l[:cap(l)] }

// fill makes all things of a list x.
func fill[T any](l []T, x T) {
	for k := range l {
		l[k] = x
	}
}

// spoil turns all that a core has answered, its spare room too.
func spoil(c *core.Core) {
	for unit := range api.Units {
		fill(whole(c.Choices(unit)), 77)
	}
	fill(whole(c.Retired()), api.Retired{Id: 77, Pair: 77})
	fill(whole(c.Flight()), api.Slot{Id: 77, Op: api.LW, Known: true})
	for _, l := range c.Stores() {
		fill(whole(l), api.Write{Id: 77, Size: 1})
		_ = append(l, api.Write{Id: 77})
	}
	fill(whole(c.Stores()), nil)
	_ = append(c.Retired(), api.Retired{Id: 77})
	_ = append(c.Flight(), api.Slot{Id: 77})
}

// P17.1, P17.3: what is done to what was answered turns nothing, at any time.
func TestAnswersTurned(t *testing.T) {
	for seed := range 100 {
		d := draw(7<<32 + seed)
		b := drawnBench(t, &d)
		d2 := draw(7<<32 + seed)
		twin := drawnBench(t, &d2)
		for range 120 {
			units := b.able()
			if len(units) == 0 {
				break
			}
			was := b.all()
			spoil(b.Core)
			b.all().alike(t, was, seed)
			b.any(&d, units...)
			twin.any(&d2, units...)
			if !b.all().alike(t, twin.all(), seed) {
				return
			}
		}
	}
}

// P17.1: an image that is handed in is neither changed nor kept, nor is its spare room.
func TestImageTurned(t *testing.T) {
	for seed := range 100 {
		d := draw(8<<32 + seed)
		number, h, img := d.of(api.Harts), d.hart(), d.image()
		room := append(slices.Clone(img), img...)
		c := core.New(number, h, room[:len(img)])
		b := &bench{Core: c, t: t, m: ram.New(img), start: h, img: img}
		twin := on(t, number, h, img)
		if !slices.Equal(room, append(slices.Clone(img), img...)) {
			t.Error(seed, "it was changed")
		}
		fill(room, 0x13)
		kept := slices.Clone(room)
		for range 120 {
			units := b.able()
			if len(units) == 0 {
				break
			}
			d2 := d
			b.any(&d, units...)
			twin.any(&d2, units...)
			if !b.all().alike(t, twin.all(), seed) {
				return
			}
		}
		if !slices.Equal(room, kept) {
			t.Error(seed, "it was changed")
		}
	}
}

// P17.2: a unit works at the memory that is handed in with it, and at no other one.
func TestMemories(t *testing.T) {
	b := begin(t, "sw x1, 64(x0)\nlw x2, 68(x0)\namoadd.w x3, x1, (x4)\nhalt", api.Hart{X: [32]uint64{1: 5, 4: 72}})
	others := []*ram.Ram{ram.New(b.img), ram.New(b.img), ram.New(b.img)}
	for k, m := range others {
		for _, addr := range []int{68, 72} {
			m.Store(2, api.Write{Id: 2 + 3*addr, Addr: addr, Size: 4, Data: uint64(k + 1)})
		}
	}
	b.bring(4)
	b.play(address, address, address, commit)
	b.m = others[0]
	b.play(load)
	b.m = others[1]
	b.play(commit, commit)
	b.m = others[2]
	b.play(drain)
	if h := b.Hart(); h.X[2] != 1 || h.X[3] != 2 {
		t.Error(h)
	}
	for k, want := range []int{0, 1, 1} {
		l := others[k].Log()[2:]
		if len(l) != want || want > 0 && l[0].Addr != []int{0, 72, 64}[k] {
			t.Error(k, l)
		}
	}
}

// P17.2: units that touch no memory leave it as it is.
func TestMemoryLeft(t *testing.T) {
	for seed := range 200 {
		d := draw(9<<32 + seed)
		b := drawnBench(t, &d)
		for range 100 {
			units := b.able()
			if len(units) == 0 {
				break
			}
			unit := drawn(&d, units...)
			was, stored := b.m.Log(), len(b.Stores())
			b.any(&d, unit)
			if l := b.m.Log(); unit < commit && len(l) != len(was) || unit == drain && len(b.Stores()) != stored-1 {
				t.Fatal(seed, unit, l)
			}
		}
	}
}
