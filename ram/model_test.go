package ram_test

import (
	"math"
	"slices"
	"testing"

	"undertow/api"
	"undertow/ram"
)

// A draw is a row of numbers that is always the same one.
type draw uint64

func (d *draw) word() uint64 {
	*d += 0x9e37_79b9_7f4a_7c15
	x := uint64(*d)
	x = (x ^ x>>30) * 0xbf58_476d_1ce4_e5b9
	x = (x ^ x>>27) * 0x94d0_49bb_1331_11eb
	return x ^ x>>31
}

func (d *draw) of(n int) int { return int(d.word() % uint64(n)) }

// image has n bytes, each unlike those beside it.
func image(n int) []byte {
	l := make([]byte, n)
	for k := range l {
		l[k] = byte(k + 1 + k>>8)
	}
	return l
}

// sizes are those that may be, and others.
func sizes() []int {
	return []int{1, 2, 4, 8, 0, 3, 5, 6, 7, 9, 16, 32, 1024, 1 << 32, math.MaxInt, -1, -2, -4, -8, math.MinInt}
}

// addresses are those of a memory of n bytes, and others.
func addresses(n int) []int {
	l := []int{1 << 20, 1 << 32, 1<<40 - 8, 1 << 40, 1<<40 + 8, 1 << 62, math.MaxInt - 7, math.MaxInt - 3, math.MaxInt - 1, math.MaxInt, -1 << 40, math.MinInt, math.MinInt + 8}
	for k := -17; k <= n+17; k++ {
		l = append(l, k)
	}
	return l
}

// wrongHarts are numbers of no hart.
func wrongHarts() []int {
	return []int{-1, -2, math.MinInt, api.Harts, api.Harts + 1, 1 << 32, math.MaxInt}
}

// may says whether a place may be in a memory of n bytes.
func may(n, addr, size int) bool {
	for _, s := range []int{1, 2, 4, 8} {
		if size == s {
			return 0 <= addr && addr < n && n-addr >= size && addr%size == 0
		}
	}
	return false
}

// low is a number's low n bytes.
func low(x uint64, n int) uint64 {
	if n == 8 {
		return x
	}
	return x % (1 << (8 * n))
}

// A deed is what was done to a memory: a store, a reservation, a drop.
type deed struct {
	kind, hart int
	w          api.Write
}

const (
	stored = iota
	reserved
	dropped
)

// A model is an image and all that was done, from which it tells everything anew.
type model struct {
	img   []byte
	deeds []deed
}

func (m *model) log() []api.Write {
	var l []api.Write
	for _, d := range m.deeds {
		if d.kind == stored {
			w := d.w
			w.Data = low(w.Data, w.Size)
			l = append(l, w)
		}
	}
	return l
}

// at is a byte, and its tag: of the last write that has it.
func (m *model) at(k int) (byte, int) {
	b, tag := m.img[k], -1
	for _, w := range m.log() {
		if w.Addr <= k && k < w.Addr+w.Size {
			b, tag = byte(w.Data>>(8*(k-w.Addr))), w.Id
		}
	}
	return b, tag
}

func (m *model) all() (bytes []byte, tags []int) {
	for k := range m.img {
		b, tag := m.at(k)
		bytes, tags = append(bytes, b), append(tags, tag)
	}
	return bytes, tags
}

// held says whether a hart's last reservation is of a place, and nothing that came behind it ended it.
func (m *model) held(hart, addr, size int) bool {
	is := false
	for _, d := range m.deeds {
		switch {
		case d.kind == reserved && d.hart == hart:
			is = d.w.Addr == addr && d.w.Size == size
		case d.kind == dropped && d.hart == hart:
			is = false
		case d.kind == stored && d.hart != hart && d.w.Addr < addr+size && addr < d.w.Addr+d.w.Size:
			is = false
		}
	}
	return is
}

// do draws a deed, does it to a memory and, where it may be, to the model.
func (m *model) do(t *testing.T, d *draw, r *ram.Ram) {
	t.Helper()
	x := deed{kind: d.of(5), hart: d.of(api.Harts+2) - 1, w: api.Write{Id: d.of(40) - 2, Data: d.word()}}
	x.w.Size = []int{1, 2, 4, 8, 1, 2, 4, 8, 0, 3}[d.of(10)]
	x.w.Addr = d.of(len(m.img)+4) - 2
	if d.of(4) > 0 && x.w.Size > 0 { // most of them stand as they must
		x.w.Addr = d.of(len(m.img)+1) / x.w.Size * x.w.Size
	}
	ok, right := false, may(len(m.img), x.w.Addr, x.w.Size) && 0 <= x.hart && x.hart < api.Harts
	switch x.kind {
	case reserved:
		x.w.Id = 0
		ok = r.Reserve(x.hart, x.w.Addr, x.w.Size)
	case dropped:
		ok, right = true, true
		r.Drop(x.hart)
	default:
		x.kind = stored
		right = right && x.w.Id >= 0
		ok = r.Store(x.hart, x.w)
	}
	if ok != right {
		t.Fatalf("%+v of %d bytes: %v", x, len(m.img), ok)
	}
	if right {
		m.deeds = append(m.deeds, x)
	}
}

// check holds all that a memory answers against the model.
func (m *model) check(t *testing.T, r *ram.Ram) {
	t.Helper()
	bytes, tags := m.all()
	if !slices.Equal(r.Bytes(), bytes) || !slices.Equal(r.Tags(), tags) || !slices.Equal(r.Log(), m.log()) {
		t.Fatalf("%+v:\n%x, not %x\n%d, not %d\n%+v", m.deeds, r.Bytes(), bytes, r.Tags(), tags, r.Log())
	}
	for _, size := range []int{1, 2, 4, 8, 0, 3} {
		for addr := -1; addr <= len(m.img); addr++ {
			m.checkPlace(t, r, addr, size)
		}
	}
}

func (m *model) checkPlace(t *testing.T, r *ram.Ram, addr, size int) {
	t.Helper()
	right, want, wantTags := may(len(m.img), addr, size), uint64(0), []int(nil)
	if right {
		for k := range size {
			b, tag := m.at(addr + k)
			want |= uint64(b) << (8 * k)
			wantTags = append(wantTags, tag)
		}
	}
	if x, l, ok := r.Load(addr, size); x != want || !slices.Equal(l, wantTags) || ok != right {
		t.Fatalf("%+v: Load(%d, %d): %#x %d %v, not %#x %d", m.deeds, addr, size, x, l, ok, want, wantTags)
	}
	for hart := -1; hart <= api.Harts; hart++ {
		if r.Held(hart, addr, size) != (right && m.held(hart, addr, size)) {
			t.Fatalf("%+v: Held(%d, %d, %d): %v", m.deeds, hart, addr, size, r.Held(hart, addr, size))
		}
	}
}

// P12.1, P12.2, P12.3, P12.4, P12.5: whatever is done, a memory is what the model tells.
func TestModel(t *testing.T) {
	d := draw(12)
	for _, n := range []int{0, 1, 3, 8, 13, 16, 24} {
		for range 40 {
			m, r := &model{img: image(n)}, ram.New(image(n))
			m.check(t, r)
			for range 30 {
				m.do(t, &d, r)
			}
			m.check(t, r)
		}
	}
}

// P12.4, P12.5: so behind each single deed.
func TestModelStep(t *testing.T) {
	d := draw(125)
	for range 30 {
		m, r := &model{img: image(16)}, ram.New(image(16))
		for range 30 {
			m.do(t, &d, r)
			m.check(t, r)
		}
	}
}

// P12.4: each byte of a great memory is the last write's that has it, its tag that write's Id, else the image's.
func TestGreatMemory(t *testing.T) {
	d := draw(124)
	img := image(api.MaxMemory)
	r := ram.New(img)
	for id := range 2000 {
		size := 1 << d.of(4)
		w := api.Write{Id: id, Addr: d.of(api.MaxMemory/2/size) * size, Size: size, Data: d.word()}
		if !r.Store(d.of(api.Harts), w) {
			t.Fatalf("%+v", w)
		}
		if x, l, ok := r.Load(w.Addr, size); x != low(w.Data, size) || !slices.Equal(l, slices.Repeat([]int{id}, size)) || !ok {
			t.Fatalf("%+v: %#x %d %v", w, x, l, ok)
		}
	}
	m := &model{img: img}
	for _, w := range r.Log() {
		m.deeds = append(m.deeds, deed{kind: stored, w: w})
	}
	if len(m.deeds) != 2000 {
		t.Errorf("%d writes", len(m.deeds))
	}
	bytes, tags := r.Bytes(), r.Tags()
	for k := 0; k < api.MaxMemory; k += 13 {
		if b, tag := m.at(k); bytes[k] != b || tags[k] != tag {
			t.Errorf("byte %d: %x of %d, not %x of %d", k, bytes[k], tags[k], b, tag)
		}
	}
}

// What a memory answers hangs on what was done to it alone, not on what was asked, nor on another memory.
func TestAgain(t *testing.T) {
	d, again := draw(126), draw(126)
	m, r := &model{img: image(16)}, ram.New(image(16))
	n, s, beside := &model{img: image(16)}, ram.New(image(16)), ram.New(image(16))
	for range 200 {
		m.do(t, &d, r)
		m.checkPlace(t, r, 0, 8)
		n.do(t, &again, s)
		beside.Store(1, api.Write{Id: 5, Addr: 8, Size: 8})
	}
	m.check(t, r)
	n.check(t, s)
	if !slices.Equal(r.Log(), s.Log()) || !slices.Equal(r.Bytes(), s.Bytes()) || !slices.Equal(r.Tags(), s.Tags()) {
		t.Errorf("%+v, not %+v", r.Log(), s.Log())
	}
}
