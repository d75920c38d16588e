package soc_test

import (
	"slices"
	"testing"

	"undertow/api"
	"undertow/ops"
	"undertow/seq"
	"undertow/soc"
)

// byWrites is how the memory would be behind the log's writes, one behind the other.
func byWrites(img []byte, log []api.Write) []byte {
	mem := slices.Clone(img)
	for _, w := range log {
		for k := range w.Size {
			mem[w.Addr+k] = byte(w.Data >> (8 * k))
		}
	}
	return mem
}

// own says whether what a hart retired is its program's own, and the hart is where that has brought it.
func own(m *soc.Machine, n int, h api.Hart, img []byte) bool {
	h.X[0] = 0
	for _, r := range m.Retired(n) {
		var d api.Done
		if h, d = seq.Step(h, img, r.Done.Read, r.Done.Failed); d != r.Done {
			return false
		}
	}
	return m.Hart(n) == h
}

// waiting are the stores that a core has in its buffer.
func waiting(m *soc.Machine, n int) []api.Write { return slices.Concat(m.Stores(n)...) }

// stored holds that each store that retired is in the log or in its core's buffer, once, and that there is nothing else.
func stored(t *testing.T, m *soc.Machine, of ...any) {
	t.Helper()
	left := map[int]api.Write{}
	for _, w := range slices.Concat(m.Log(), waiting(m, 0), waiting(m, 1), waiting(m, 2)) {
		if _, twice := left[w.Id]; twice {
			t.Fatal(of, "twice", w)
		}
		left[w.Id] = w
	}
	for n := range api.Harts {
		for _, r := range m.Retired(n) {
			op := r.Done.Inst.Op
			if !ops.Stores(op) || r.Done.Failed || r.Done.Cause != 0 {
				continue
			}
			if left[r.Id] != (api.Write{Id: r.Id, Addr: int(r.Done.Addr), Size: ops.Size(op), Data: r.Done.Wrote}) {
				t.Fatal(of, "lost", r, left[r.Id])
			}
			delete(left, r.Id)
		}
	}
	if len(left) > 0 {
		t.Fatal(of, "nobody's", left)
	}
}

// P18.3: at every time each core's instructions are its program's own, and each byte is that of the last write of the log that has it, or the image's.
func TestOwn(t *testing.T) {
	retired, writes := 0, 0
	for seed := range 500 {
		d := draw(3<<32 + seed)
		h, img := d.harts(together), d.image(together)
		m, style := made(t, h, img), d.style()
		for range 600 {
			if !m.Step(style.pick(&d)) {
				continue
			}
			if !slices.Equal(m.Bytes(), byWrites(img, m.Log())) {
				t.Fatal(seed, m.Bytes(), m.Log())
			}
			for n := range h {
				if !own(m, n, h[n], img) {
					t.Fatal(seed, m.Steps(), n, m.Hart(n), m.Retired(n))
				}
			}
			stored(t, m, seed, m.Steps())
		}
		writes += len(m.Log())
		for n := range h {
			retired += len(m.Retired(n))
		}
	}
	if retired < 5000 || writes < 1000 {
		t.Error(retired, writes)
	}
}

// alone runs one core till it has come to rest, by picks of it alone.
func alone(t *testing.T, m *soc.Machine, n int, d *draw) {
	t.Helper()
	style := d.style()
	for k := 0; m.Hart(n).Cause == 0 || len(m.Stores(n)) > 0; k++ {
		p := style.pick(d)
		p.Core = n
		m.Step(p)
		if k > 20_000 {
			t.Fatal(n, "has no end")
		}
	}
}

// The others of one that is alone: at their beginning, halted at first, or halted by picks of theirs.
const (
	atBeginning = iota
	haltedFirst
	haltedThen
	manners
)

// beside is a machine of a drawn one whose harts but one are in a manner.
func (d *draw) beside(t *testing.T, n, manner int) (*soc.Machine, [api.Harts]api.Hart, []byte) {
	t.Helper()
	h, img := d.harts(together), d.image(together)
	for other := range h {
		if other != n && manner == haltedFirst {
			h[other].Cause = api.CauseCall
		} else if other != n && manner == haltedThen {
			h[other].PC, h[other].Cause = 2, 0 // where there is no instruction
		}
	}
	m := made(t, h, img)
	for other := range h {
		if other != n && manner == haltedThen {
			play(t, m, other, fetch, commit)
		}
	}
	return m, h, img
}

// P18.4: picks of one core alone, till it rests, with the others at their beginning or halted: its hart is the sequential meaning's, and the memory is.
func TestAlone(t *testing.T) {
	halts := map[int]int{}
	for k := range 700 * api.Harts * manners {
		n, manner, seed := k%api.Harts, k/api.Harts%manners, k/api.Harts/manners
		d := draw(4<<32 + seed)
		m, h, img := d.beside(t, n, manner)
		hart, mem, l := seq.Alone(h[n], img, 100)
		if hart.Cause == 0 {
			continue
		}
		was, rest := tell(m), true
		alone(t, m, n, &d)
		if m.Hart(n) != hart || !slices.Equal(m.Bytes(), mem) {
			t.Fatal(seed, n, manner, m.Hart(n), hart, m.Bytes(), mem)
		}
		if !slices.EqualFunc(m.Retired(n), l, func(r api.Retired, d api.Done) bool { return r.Done == d }) {
			t.Fatal(seed, n, manner, m.Retired(n), l)
		}
		for other := range h {
			if other != n && tellCore(m, other).unlike(was.cores[other]) != "" {
				t.Fatal(seed, n, manner, "turned core", other)
			}
			rest = rest && m.Hart(other).Cause != 0
		}
		if m.Finished() != rest || manner != atBeginning && !rest {
			t.Fatal(seed, n, manner, "finished", m.Finished())
		}
		halts[hart.Cause]++
	}
	for cause := api.CauseCall; cause <= api.CauseRange; cause++ {
		if halts[cause] < 10 {
			t.Error("cause", cause, "came", halts[cause], "times")
		}
	}
}

// P18.5: a step of one core turns nothing that is told of the others, whatever is in flight and stored.
func TestOthersStay(t *testing.T) {
	drained := 0
	for seed := range 500 {
		d := draw(5<<32 + seed)
		m, style := made(t, d.harts(together), d.image(together)), d.style()
		was := tell(m)
		for range 400 {
			p := style.pick(&d)
			if !m.Step(p) {
				continue
			}
			now := tell(m)
			for n := range now.cores {
				if what := now.cores[n].unlike(was.cores[n]); n != p.Core && what != "" {
					t.Fatal(seed, m.Steps(), p, "turned core", n, what)
				}
			}
			if p.Unit == drain {
				drained++
			}
			was = now
		}
	}
	if drained < 500 {
		t.Error(drained)
	}
}

// P18.5: harts that share nothing are all the same, whether the others do anything or not.
func TestApart(t *testing.T) {
	retired, writes := 0, 0
	for seed := range 300 {
		d := draw(6<<32 + seed)
		h, img := d.harts(apart), d.image(apart)
		m, style := made(t, h, img), d.style()
		var only [api.Harts]*soc.Machine
		for n := range only {
			only[n] = made(t, h, img)
		}
		for range 600 {
			p := style.pick(&d)
			did := m.Step(p)
			for n := range only {
				mine := p
				if n != p.Core {
					mine.Core = api.Harts // so that the steps are as many
				}
				if done := only[n].Step(mine); done != (did && n == p.Core) {
					t.Fatal(seed, n, p, done)
				}
			}
			if did {
				if what := tellCore(m, p.Core).unlike(tellCore(only[p.Core], p.Core)); what != "" {
					t.Fatal(seed, p, what)
				}
			}
		}
		mem := m.Bytes()
		for n := range only {
			if at := apart.data[n]; !slices.Equal(mem[at:at+ownRoom], only[n].Bytes()[at:at+ownRoom]) {
				t.Fatal(seed, n, mem)
			}
			retired += len(m.Retired(n))
		}
		writes += len(m.Log())
	}
	if retired < 3000 || writes < 500 {
		t.Error(retired, writes)
	}
}

// whole is a list with its spare room.
func whole[T any](l []T) []T { return l[:cap(l)] }

// fill makes all things of a list x.
func fill[T any](l []T, x T) {
	for k := range l {
		l[k] = x
	}
}

// spoil turns all that a machine has answered, its spare room too.
func spoil(m *soc.Machine) {
	for n := range api.Harts {
		for unit := range api.Units {
			fill(whole(m.Choices(n, unit)), 77)
		}
		fill(whole(m.Retired(n)), api.Retired{Id: 77, Pair: 77})
		fill(whole(m.Flight(n)), api.Slot{Id: 77, Op: api.LW, Known: true})
		for _, l := range m.Stores(n) {
			fill(whole(l), api.Write{Id: 77, Size: 1})
		}
		fill(whole(m.Stores(n)), nil)
	}
	fill(whole(m.Bytes()), 77)
	fill(whole(m.Log()), api.Write{Id: 77, Size: 8})
}

// P18.6: the same picks to two machines of one image come to the same, one by one or at once; what is told of one, or taken from what it gave, turns nothing of it or of the other.
func TestAgain(t *testing.T) {
	for seed := range 150 {
		d := draw(7<<32 + seed)
		h, img := d.harts(together), d.image(together)
		a, b, c := made(t, h, img), made(t, h, img), made(t, h, img)
		var l []api.Pick
		done := 0
		for range 300 {
			p := d.any()
			l = append(l, p)
			did := a.Step(p)
			was := tell(a)
			spoil(a)
			was.stays(t, a, 0, seed, p)
			if b.Step(p) != did || b.Steps() != a.Steps() {
				t.Fatal(seed, p, did)
			}
			if did {
				done++
				was.stays(t, b, 0, seed, p)
			}
			if t.Failed() {
				return
			}
		}
		if c.Run(l...) != done {
			t.Error(seed, "not", done)
		}
		tell(a).stays(t, c, 0, seed)
		tell(a).stays(t, b, 0, seed)
	}
}

// P18.6: one machine's steps turn nothing of another one of the same image.
func TestTwoMachines(t *testing.T) {
	for seed := range 100 {
		d := draw(8<<32 + seed)
		h, img := d.harts(together), d.image(together)
		a, b := made(t, h, img), made(t, h, img)
		for range 100 {
			b.Step(d.pick())
		}
		was := tell(b)
		for range 300 {
			a.Step(d.pick())
		}
		was.stays(t, b, 0, seed)
	}
}

// P18.1: an image that is handed in is neither changed nor kept, nor is its spare room.
func TestImageTurned(t *testing.T) {
	for seed := range 100 {
		d := draw(9<<32 + seed)
		h, img := d.harts(together), d.image(together)
		handed := append(slices.Clone(img), img...)
		m, twin := made(t, h, handed[:len(img)]), made(t, h, img)
		if !slices.Equal(handed, append(slices.Clone(img), img...)) {
			t.Error(seed, "it was changed")
		}
		fill(handed, 0x13)
		turned := slices.Clone(handed)
		tell(twin).stays(t, m, 0, seed)
		for range 300 {
			p := d.pick()
			if m.Step(p) != twin.Step(p) {
				t.Fatal(seed, p)
			}
		}
		tell(twin).stays(t, m, 0, seed)
		if !slices.Equal(handed, turned) {
			t.Error(seed, "it was changed")
		}
	}
}
