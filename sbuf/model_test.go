package sbuf_test

import (
	"math"
	"slices"
	"testing"

	"undertow/api"
	"undertow/sbuf"
)

// A draw is a row of numbers that is always the same one.
type draw uint64

func (d *draw) word() uint64 {
	*d += 0x9e37_79b9_7f4a_7c15
	x := uint64(*d)
	x = (x ^ x>>30) * 0xbf58_476d_1ce4_e5b9
	x = (x ^ x>>27) * 0x94d0_49bb_1331_11eb
	return x ^ x>>31
}

func (d *draw) of(n int) int { return int(d.word() % uint64(n)) }

// sizes are those that may be, and others.
func sizes() []int {
	return []int{1, 2, 4, 8, 0, 3, 5, 6, 7, 9, 16, 32, 1024, 1 << 32, math.MaxInt, -1, -2, -4, -8, math.MinInt}
}

// addresses are those of the greatest memory, those beside it, and others.
func addresses() []int {
	l := []int{2048, 1 << 20, 1 << 32, 1<<40 - 8, 1 << 40, 1<<40 + 8, 1 << 62, math.MaxInt - 7, math.MaxInt - 3, math.MaxInt - 1, math.MaxInt, -1 << 40, math.MinInt, math.MinInt + 8}
	for k := -17; k <= api.MaxMemory+17; k++ {
		l = append(l, k)
	}
	return l
}

// may says whether a store may be.
func may(w api.Write) bool {
	right := w.Size == 1 || w.Size == 2 || w.Size == 4 || w.Size == 8
	return right && w.Id >= 0 && w.Addr >= 0 && w.Addr%w.Size == 0 && w.Addr <= 1024
}

// A kept store is one that was put and not drained: of which block and epoch it is.
type kept struct {
	w            api.Write
	block, epoch int
}

// A model has all stores that are kept, in the order in which they came; what is told of them is told anew each time.
type model struct {
	stores []kept
	epoch  int
}

// entries are the stores of each block and epoch, as their first ones came.
func (m *model) entries() [][]kept {
	var l [][]kept
	for _, s := range m.stores {
		k := slices.IndexFunc(l, func(e []kept) bool { return e[0].block == s.block && e[0].epoch == s.epoch })
		if k < 0 {
			l, k = append(l, nil), len(l)
		}
		l[k] = append(l[k], s)
	}
	return l
}

// put says whether a store is put.
func (m *model) put(w api.Write) bool {
	if !may(w) {
		return false
	}
	s := kept{w, w.Addr - w.Addr%8, m.epoch}
	if w.Size < 8 {
		s.w.Data %= 1 << (8 * w.Size)
	}
	others, l := 0, m.entries()
	for _, o := range m.stores {
		if o.block == s.block && o.epoch == s.epoch {
			others++
		}
	}
	if others == 8 || others == 0 && len(l) == 4 {
		return false
	}
	m.stores = append(m.stores, s)
	return true
}

func (m *model) barrier() {
	for _, s := range m.stores {
		if s.epoch == m.epoch {
			m.epoch++
			return
		}
	}
}

// find is the last store's byte that has it.
func (m *model) find(at int) (x byte, id int, ok bool) {
	for _, s := range m.stores {
		for k := range s.w.Size {
			if s.w.Addr+k == at {
				x, id, ok = byte(s.w.Data>>(8*k)), s.w.Id, true
			}
		}
	}
	return x, id, ok
}

func (m *model) ready() []int {
	least := math.MaxInt
	for _, s := range m.stores {
		least = min(least, s.epoch)
	}
	var l []int
	for k, e := range m.entries() {
		if e[0].epoch == least {
			l = append(l, k)
		}
	}
	return l
}

func (m *model) drain(k int) []api.Write {
	if !slices.Contains(m.ready(), k) {
		return nil
	}
	e := m.entries()[k]
	m.stores = slices.DeleteFunc(m.stores, func(s kept) bool { return s.block == e[0].block && s.epoch == e[0].epoch })
	return writes(e)
}

// writes are the stores of an entry alone.
func writes(e []kept) []api.Write {
	var l []api.Write
	for _, s := range e {
		l = append(l, s.w)
	}
	return l
}

func (m *model) elder() bool {
	return slices.ContainsFunc(m.stores, func(s kept) bool { return s.epoch < m.epoch })
}

func (m *model) overlaps(addr, size int) bool {
	if addr < 0 || size < 1 || size > 8 {
		return false
	}
	for k := range size {
		if _, _, ok := m.find(addr + k); ok {
			return true
		}
	}
	return false
}

// check holds all that a buffer tells against the model.
func (m *model) check(t *testing.T, b *sbuf.Buffer) {
	t.Helper()
	var want [][]api.Write
	for _, e := range m.entries() {
		want = append(want, writes(e))
	}
	if !same(b.Entries(), want) || b.Empty() != (len(want) == 0) {
		t.Fatalf("%+v, Empty %v, not %+v", b.Entries(), b.Empty(), want)
	}
	if !slices.Equal(b.Ready(), m.ready()) || b.Elder() != m.elder() {
		t.Fatalf("%+v: Ready %d, Elder %v, not %d, %v", m.stores, b.Ready(), b.Elder(), m.ready(), m.elder())
	}
}

// checkBytes holds what is found of the bytes below n, and of those beside them, against the model.
func (m *model) checkBytes(t *testing.T, b *sbuf.Buffer, n int) {
	t.Helper()
	for at := -1; at <= n; at++ {
		x, id, ok := b.Find(at)
		if y, i, is := m.find(at); x != y || id != i || ok != is {
			t.Fatalf("%+v: Find(%d): %#x of %d, %v, not %#x of %d, %v", m.stores, at, x, id, ok, y, i, is)
		}
		for _, size := range []int{1, 2, 4, 8, 0, 3, 9, -1} {
			if b.Overlaps(at, size) != m.overlaps(at, size) {
				t.Fatalf("%+v: Overlaps(%d, %d): %v", m.stores, at, size, b.Overlaps(at, size))
			}
		}
	}
}

// both puts a store into a buffer and a model.
func both(t *testing.T, m *model, b *sbuf.Buffer, w api.Write) {
	t.Helper()
	fits := b.Fits(w)
	if ok := b.Put(w); ok != m.put(w) || ok != fits {
		t.Fatalf("%+v behind %+v: Fits %v, Put %v", w, m.stores, fits, ok)
	}
}

// let lets an entry go from both.
func let(t *testing.T, m *model, b *sbuf.Buffer, k int) {
	t.Helper()
	before := m.stores
	if l, want := b.Drain(k), m.drain(k); !slices.Equal(l, want) {
		t.Fatalf("Drain(%d) of %+v: %+v, not %+v", k, before, l, want)
	}
}

// do draws a deed and does it to both.
func (m *model) do(t *testing.T, d *draw, b *sbuf.Buffer) {
	t.Helper()
	switch d.of(8) {
	case 0:
		b.Barrier()
		m.barrier()
	case 1, 2:
		let(t, m, b, d.of(7)-1)
	default:
		w := api.Write{Id: d.of(40) - 1, Size: []int{1, 2, 4, 8, 1, 2, 4, 8, 0, 3}[d.of(10)], Data: d.word()}
		w.Addr = d.of(50) - 2
		if d.of(8) > 0 && w.Size > 0 { // most of them stand as they must
			w.Addr = d.of(48) / w.Size * w.Size
		}
		both(t, m, b, w)
	}
}

// P13.1, P13.2, P13.3, P13.4, P13.6: whatever is done, a buffer is what the model tells, behind each step.
func TestModel(t *testing.T) {
	d := draw(13)
	for range 300 {
		m, b := &model{}, &sbuf.Buffer{}
		for range 60 {
			m.do(t, &d, b)
			m.check(t, b)
		}
		m.checkBytes(t, b, 56)
	}
}

// P13.6: so byte by byte behind each single step.
func TestModelBytes(t *testing.T) {
	d := draw(136)
	for range 20 {
		m, b := &model{}, &sbuf.Buffer{}
		for range 60 {
			m.do(t, &d, b)
			m.checkBytes(t, b, 56)
		}
	}
}

// P13.1, P13.2, P13.3, P13.4: each row of six deeds out of these eight.
func TestRows(t *testing.T) {
	const deeds, long = 8, 6
	rows := 1
	for range long {
		rows *= deeds
	}
	for row := range rows {
		m, b := &model{}, &sbuf.Buffer{}
		for k := range long {
			deed := row % deeds
			row /= deeds
			switch deed {
			case 0:
				b.Barrier()
				m.barrier()
			case 1, 2, 3:
				let(t, m, b, deed-1)
			default:
				both(t, m, b, []api.Write{{Addr: 0, Size: 4, Data: 0x01020304}, {Addr: 2, Size: 1, Data: 9}, {Addr: 8, Size: 8}, {Addr: 16, Size: 2, Data: 7}}[deed-4])
			}
			if k == long-1 {
				m.check(t, b)
			}
		}
	}
}

// order holds that of what was drained each two that overlap, and each two with a barrier between, are in the order in which they came; barriers is how many barriers were ahead of each, whose numbers fall.
func order(t *testing.T, drained []api.Write, barriers map[int]int) {
	t.Helper()
	for k, v := range drained {
		for _, w := range drained[k+1:] {
			overlap := v.Addr < w.Addr+w.Size && w.Addr < v.Addr+v.Size
			if w.Id > v.Id && (overlap || barriers[w.Id] != barriers[v.Id]) {
				t.Fatalf("%+v is drained ahead of %+v", v, w)
			}
		}
	}
}

// P13.5: in whatever order the entries go that may.
func TestOrder(t *testing.T) {
	d := draw(135)
	turned := false
	for range 300 {
		b, barriers, count := &sbuf.Buffer{}, map[int]int{}, 0
		var drained []api.Write
		for id := 80; id > 0; id-- {
			size := 1 << d.of(4)
			w := api.Write{Id: id, Addr: d.of(40) / size * size, Size: size, Data: d.word()}
			if b.Put(w) {
				barriers[w.Id] = count
			}
			switch d.of(4) {
			case 0:
				b.Barrier()
				count++
			case 1:
				drained = append(drained, some(&d, b)...)
			}
		}
		for range sbuf.Slots {
			drained = append(drained, some(&d, b)...)
		}
		if len(drained) != len(barriers) {
			t.Fatalf("%d of %d are drained", len(drained), len(barriers))
		}
		order(t, drained, barriers)
		turned = turned || !slices.IsSortedFunc(drained, func(v, w api.Write) int { return w.Id - v.Id })
	}
	if !turned {
		t.Error("none is drained ahead of an earlier one")
	}
}

// some drains one of the entries that may go.
func some(d *draw, b *sbuf.Buffer) []api.Write {
	l := b.Ready()
	if len(l) == 0 {
		return nil
	}
	return b.Drain(l[d.of(len(l))])
}

// P13.6: what was put and drained is, byte by byte, in a memory, or found ahead of it: what a single memory would have.
func TestThrough(t *testing.T) {
	d := draw(137)
	for range 100 {
		b := &sbuf.Buffer{}
		var memory, want [64]byte
		for id := range 100 {
			size := 1 << d.of(4)
			w := api.Write{Id: id, Addr: d.of(48) / size * size, Size: size, Data: d.word()}
			if b.Put(w) {
				lay(&want, w)
			}
			if d.of(3) == 0 {
				b.Barrier()
			}
			if d.of(2) == 0 {
				for _, w := range some(&d, b) {
					lay(&memory, w)
				}
			}
			for at, x := range memory {
				if y, _, ok := b.Find(at); ok {
					x = y
				}
				if x != want[at] {
					t.Fatalf("byte %d: %#x, not %#x", at, x, want[at])
				}
			}
		}
	}
}

// lay writes a store's bytes.
func lay(memory *[64]byte, w api.Write) {
	for k := range w.Size {
		memory[w.Addr+k] = byte(w.Data >> (8 * k))
	}
}

// What a buffer answers hangs on what was done to it alone, not on what was asked, nor on another one.
func TestAgain(t *testing.T) {
	d, again := draw(139), draw(139)
	m, b := &model{}, &sbuf.Buffer{}
	n, c, beside := &model{}, &sbuf.Buffer{}, &sbuf.Buffer{}
	for k := range 300 {
		m.do(t, &d, b)
		m.checkBytes(t, b, 8)
		n.do(t, &again, c)
		beside.Put(api.Write{Id: k, Addr: k % 8, Size: 1})
		beside.Barrier()
		beside.Drain(0)
		if !same(b.Entries(), c.Entries()) || !slices.Equal(b.Ready(), c.Ready()) || b.Elder() != c.Elder() {
			t.Fatalf("%+v, not %+v", b.Entries(), c.Entries())
		}
	}
}
