package ram_test

import (
	"math"
	"slices"
	"testing"

	"undertow/api"
	"undertow/ram"
)

// is holds a memory's bytes, tags and log against those that are wanted.
func is(t *testing.T, m *ram.Ram, bytes []byte, tags []int, log ...api.Write) {
	t.Helper()
	if !slices.Equal(m.Bytes(), bytes) || !slices.Equal(m.Tags(), tags) || !slices.Equal(m.Log(), log) {
		t.Errorf("%x %d %+v, not %x %d %+v", m.Bytes(), m.Tags(), m.Log(), bytes, tags, log)
	}
}

// loads holds what is loaded from a place against what is wanted.
func loads(t *testing.T, m *ram.Ram, addr, size int, want uint64, tags ...int) {
	t.Helper()
	if x, l, ok := m.Load(addr, size); x != want || !slices.Equal(l, tags) || !ok {
		t.Errorf("Load(%d, %d): %#x %d %v, not %#x %d", addr, size, x, l, ok, want, tags)
	}
}

// store stores what may be stored.
func store(t *testing.T, m *ram.Ram, hart int, w api.Write) {
	t.Helper()
	if !m.Store(hart, w) {
		t.Errorf("Store(%d, %+v): false", hart, w)
	}
}

// reserve reserves what may be reserved.
func reserve(t *testing.T, m *ram.Ram, hart, addr, size int) {
	t.Helper()
	if !m.Reserve(hart, addr, size) {
		t.Errorf("Reserve(%d, %d, %d): false", hart, addr, size)
	}
}

// held holds whether a hart has a reservation against what is wanted.
func held(t *testing.T, m *ram.Ram, hart, addr, size int, want bool) {
	t.Helper()
	if m.Held(hart, addr, size) != want {
		t.Errorf("Held(%d, %d, %d): %v", hart, addr, size, !want)
	}
}

// first are n tags of bytes that nothing was stored in.
func first(n int) []int { return slices.Repeat([]int{-1}, n) }

// P12.1
func TestNew(t *testing.T) {
	is(t, ram.New(nil), nil, nil)
	is(t, ram.New([]byte{}), nil, nil)
	is(t, ram.New([]byte{0xfe}), []byte{0xfe}, []int{-1})
	for _, n := range []int{2, 7, 8, 100, api.MaxMemory - 1, api.MaxMemory, api.MaxMemory + 1, api.MaxMemory + 8, 5000} {
		is(t, ram.New(image(n)), image(n)[:min(n, 1024)], first(min(n, 1024)))
	}
	is(t, ram.New(image(20)[4:7]), []byte{5, 6, 7}, first(3))
}

// P12.1
func TestLoad(t *testing.T) {
	m := ram.New([]byte{0x01, 0x12, 0x23, 0x34, 0x45, 0x56, 0x67, 0x78, 0x89, 0x9a, 0xab, 0xbc, 0xcd, 0xde, 0xef, 0xf0})
	loads(t, m, 0, 1, 0x01, first(1)...)
	loads(t, m, 0, 2, 0x1201, first(2)...)
	loads(t, m, 0, 4, 0x34231201, first(4)...)
	loads(t, m, 0, 8, 0x7867564534231201, first(8)...)
	loads(t, m, 15, 1, 0xf0, first(1)...)
	loads(t, m, 14, 2, 0xf0ef, first(2)...)
	loads(t, m, 12, 4, 0xf0efdecd, first(4)...)
	loads(t, m, 8, 8, 0xf0efdecdbcab9a89, first(8)...)
	loads(t, m, 7, 1, 0x78, first(1)...)
	loads(t, m, 6, 2, 0x7867, first(2)...)
	is(t, m, []byte{0x01, 0x12, 0x23, 0x34, 0x45, 0x56, 0x67, 0x78, 0x89, 0x9a, 0xab, 0xbc, 0xcd, 0xde, 0xef, 0xf0}, first(16))
}

// P12.1: the last places of a memory of every size, which a greater one doesn't have more of.
func TestLastPlaces(t *testing.T) {
	for _, n := range []int{api.MaxMemory, api.MaxMemory + 1, 2 * api.MaxMemory} {
		img := make([]byte, n)
		copy(img[1016:], []byte{1, 2, 3, 4, 5, 6, 7, 8, 9})
		m := ram.New(img)
		loads(t, m, 1023, 1, 8, first(1)...)
		loads(t, m, 1022, 2, 0x0807, first(2)...)
		loads(t, m, 1020, 4, 0x08070605, first(4)...)
		loads(t, m, 1016, 8, 0x0807060504030201, first(8)...)
		for _, size := range sizes() {
			if x, l, ok := m.Load(1024, size); x != 0 || len(l) > 0 || ok {
				t.Errorf("Load(1024, %d): %#x %d %v", size, x, l, ok)
			}
		}
	}
	m := ram.New([]byte{9})
	loads(t, m, 0, 1, 9, -1)
	if x, l, ok := m.Load(0, 2); x != 0 || len(l) > 0 || ok {
		t.Errorf("%#x %d %v", x, l, ok)
	}
}

// P12.1, P12.2, P12.3: each call takes the places that may be, and no other; where it doesn't, nothing is done.
func TestPlaces(t *testing.T) {
	for _, n := range []int{0, 1, 2, 7, 8, 9, 17, api.MaxMemory - 1, api.MaxMemory} {
		for _, size := range sizes() {
			for _, addr := range addresses(n) {
				takes(t, n, addr, size)
			}
		}
	}
}

// takes holds whether a memory of n bytes takes a place against whether the place may be.
func takes(t *testing.T, n, addr, size int) {
	t.Helper()
	m, want := ram.New(image(n)), may(n, addr, size)
	held(t, m, 1, addr, size, false)
	if m.Reserve(1, addr, size) != want || m.Held(1, addr, size) != want {
		t.Fatalf("of %d bytes Reserve(1, %d, %d): %v", n, addr, size, !want)
	}
	if x, l, ok := m.Load(addr, size); ok != want || !want && (x != 0 || len(l) > 0) || want && len(l) != size {
		t.Fatalf("of %d bytes Load(%d, %d): %#x %d %v", n, addr, size, x, l, ok)
	}
	w := api.Write{Id: 3, Addr: addr, Size: size, Data: math.MaxUint64}
	if m.Store(1, w) != want {
		t.Fatalf("of %d bytes Store(1, %+v): %v", n, w, !want)
	}
	if !want {
		is(t, m, image(n), first(n))
	}
}

// P12.2: the chapter's example.
func TestStoreExample(t *testing.T) {
	m := ram.New(make([]byte, 8))
	store(t, m, 0, api.Write{Id: 7, Addr: 4, Size: 2, Data: 0x10203})
	is(t, m, []byte{0, 0, 0, 0, 3, 2, 0, 0}, []int{-1, -1, -1, -1, 7, 7, -1, -1}, api.Write{Id: 7, Addr: 4, Size: 2, Data: 0x0203})
	loads(t, m, 4, 2, 0x0203, 7, 7)
}

// P12.2: of Data just the low bytes, at the first and the last bytes of a memory, and nothing beside them.
func TestStoreSizes(t *testing.T) {
	const data = 0xfedc_ba98_7654_3210
	bytes := []byte{0x10, 0x32, 0x54, 0x76, 0x98, 0xba, 0xdc, 0xfe}
	kept := map[int]uint64{1: 0x10, 2: 0x3210, 4: 0x7654_3210, 8: data}
	for _, n := range []int{8, 16, api.MaxMemory} {
		for size, low := range kept {
			for _, addr := range []int{0, n - size} {
				m := ram.New(image(n))
				store(t, m, 2, api.Write{Id: 11, Addr: addr, Size: size, Data: data})
				want, tags := image(n), first(n)
				copy(want[addr:], bytes[:size])
				copy(tags[addr:], slices.Repeat([]int{11}, size))
				is(t, m, want, tags, api.Write{Id: 11, Addr: addr, Size: size, Data: low})
				loads(t, m, addr, size, low, slices.Repeat([]int{11}, size)...)
			}
		}
	}
	m := ram.New([]byte{9})
	store(t, m, 0, api.Write{Id: 1, Size: 1, Data: 0x1ff})
	is(t, m, []byte{0xff}, []int{1}, api.Write{Id: 1, Size: 1, Data: 0xff})
}

// P12.2, P12.4: tags ahead of a write, behind it, and behind one that stores over a part of it.
func TestTags(t *testing.T) {
	m := ram.New(image(12))
	loads(t, m, 0, 8, 0x0807060504030201, first(8)...)
	store(t, m, 0, api.Write{Id: 5, Addr: 0, Size: 8, Data: 0x1111_1111_1111_1111})
	loads(t, m, 0, 8, 0x1111_1111_1111_1111, 5, 5, 5, 5, 5, 5, 5, 5)
	loads(t, m, 8, 4, 0x0c0b0a09, first(4)...)
	store(t, m, 1, api.Write{Id: 2, Addr: 2, Size: 2, Data: 0x2222})
	loads(t, m, 0, 8, 0x1111_1111_2222_1111, 5, 5, 2, 2, 5, 5, 5, 5)
	store(t, m, 0, api.Write{Id: 9, Addr: 3, Size: 1, Data: 0x33})
	loads(t, m, 0, 8, 0x1111_1111_3322_1111, 5, 5, 2, 9, 5, 5, 5, 5)
	loads(t, m, 3, 1, 0x33, 9)
	store(t, m, 2, api.Write{Id: 0, Addr: 8, Size: 4})
	loads(t, m, 8, 4, 0, 0, 0, 0, 0)
	store(t, m, 2, api.Write{Id: 4, Addr: 0, Size: 4, Data: 0x4444_4444})
	loads(t, m, 0, 8, 0x1111_1111_4444_4444, 4, 4, 4, 4, 5, 5, 5, 5)
	is(t, m, []byte{0x44, 0x44, 0x44, 0x44, 0x11, 0x11, 0x11, 0x11, 0, 0, 0, 0}, []int{4, 4, 4, 4, 5, 5, 5, 5, 0, 0, 0, 0},
		api.Write{Id: 5, Addr: 0, Size: 8, Data: 0x1111_1111_1111_1111}, api.Write{Id: 2, Addr: 2, Size: 2, Data: 0x2222},
		api.Write{Id: 9, Addr: 3, Size: 1, Data: 0x33}, api.Write{Id: 0, Addr: 8, Size: 4}, api.Write{Id: 4, Addr: 0, Size: 4, Data: 0x4444_4444})
}

// P12.2: Ids from 0 on, the greatest one too, and the same one twice; none below 0.
func TestIds(t *testing.T) {
	m := ram.New([]byte{1, 2})
	for _, id := range []int{0, 1, math.MaxInt - 1, math.MaxInt, 0, 0} {
		store(t, m, 0, api.Write{Id: id, Addr: 1, Size: 1, Data: 7})
		loads(t, m, 0, 2, 0x0701, -1, id)
	}
	log := m.Log()
	for _, id := range []int{-1, -2, math.MinInt} {
		if m.Store(0, api.Write{Id: id, Addr: 0, Size: 1, Data: 9}) {
			t.Errorf("Id %d", id)
		}
	}
	is(t, m, []byte{1, 7}, []int{-1, 0}, log...)
	if len(log) != 6 || log[3].Id != math.MaxInt {
		t.Errorf("%+v", log)
	}
}

// P12.2: where a store tells false, nothing is done, to reservations neither.
func TestStoreRefused(t *testing.T) {
	m := ram.New(image(16))
	store(t, m, 1, api.Write{Id: 4, Addr: 8, Size: 2, Data: 0x0a0b})
	reserve(t, m, 0, 0, 8)
	reserve(t, m, 2, 8, 8)
	want, tags, log := m.Bytes(), m.Tags(), m.Log()
	refused := []api.Write{{Id: -1, Size: 8}, {Size: 0}, {Size: 3}, {Size: 16}, {Size: -8}, {Addr: 4, Size: 8}, {Addr: 1, Size: 2}, {Addr: -8, Size: 8}, {Addr: 16, Size: 1}, {Addr: 16, Size: 8}, {Addr: math.MaxInt - 7, Size: 8}, {Addr: math.MaxInt, Size: 1}, {Addr: math.MinInt, Size: 8}}
	for _, w := range refused {
		for hart := range api.Harts {
			if m.Store(hart, w) {
				t.Errorf("Store(%d, %+v): true", hart, w)
			}
		}
	}
	for _, hart := range wrongHarts() {
		for addr := range 16 {
			if m.Store(hart, api.Write{Id: 1, Addr: addr, Size: 1}) {
				t.Errorf("hart %d", hart)
			}
		}
	}
	is(t, m, want, tags, log...)
	held(t, m, 0, 0, 8, true)
	held(t, m, 2, 8, 8, true)
}
