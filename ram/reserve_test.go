package ram_test

import (
	"math"
	"testing"

	"undertow/api"
	"undertow/ram"
)

// P12.3
func TestReserve(t *testing.T) {
	m := ram.New(image(32))
	for hart := range api.Harts {
		reserve(t, m, hart, 8*hart, 8)
	}
	for hart := range api.Harts {
		for addr := range 33 {
			for _, size := range sizes() {
				held(t, m, hart, addr, size, addr == 8*hart && size == 8)
			}
		}
	}
	is(t, m, image(32), first(32))
}

// P12.3: each size, at the first and the last bytes, of each hart.
func TestReserveSizes(t *testing.T) {
	for _, n := range []int{8, 24, api.MaxMemory} {
		for _, size := range []int{1, 2, 4, 8} {
			for _, addr := range []int{0, n - size} {
				for hart := range api.Harts {
					m := ram.New(image(n))
					reserve(t, m, hart, addr, size)
					for other := -1; other <= api.Harts; other++ {
						held(t, m, other, addr, size, other == hart)
					}
				}
			}
		}
	}
}

// P12.3: the place alone is held: not another address, another size, a part of it or more than it.
func TestHeldJust(t *testing.T) {
	m := ram.New(image(32))
	reserve(t, m, 1, 8, 4)
	held(t, m, 1, 8, 4, true)
	for _, p := range [][2]int{{8, 1}, {8, 2}, {8, 8}, {8, 0}, {8, 3}, {8, 16}, {8, -4}, {4, 4}, {12, 4}, {0, 4}, {16, 4}, {9, 1}, {10, 2}, {9, 4}, {-8, 4}, {32, 4}, {math.MaxInt - 3, 4}, {math.MinInt, 4}, {0, 0}} {
		held(t, m, 1, p[0], p[1], false)
	}
	held(t, m, 0, 8, 4, false)
	held(t, m, 2, 8, 4, false)
	held(t, m, 1, 8, 4, true)
}

// P12.3: a hart has none at first, whatever the place is that is asked, that of no bytes too.
func TestHeldNone(t *testing.T) {
	for _, n := range []int{0, 1, 16} {
		m := ram.New(image(n))
		for hart := -1; hart <= api.Harts; hart++ {
			for _, size := range sizes() {
				for _, addr := range addresses(n) {
					held(t, m, hart, addr, size, false)
				}
			}
		}
	}
}

// P12.3: a reservation behind a reservation is the only one; one that is refused leaves the one that is there.
func TestReserveAgain(t *testing.T) {
	m := ram.New(image(16))
	reserve(t, m, 2, 0, 8)
	reserve(t, m, 2, 8, 8)
	held(t, m, 2, 0, 8, false)
	held(t, m, 2, 8, 8, true)
	reserve(t, m, 2, 8, 4)
	held(t, m, 2, 8, 8, false)
	held(t, m, 2, 8, 4, true)
	for _, p := range [][2]int{{0, 0}, {0, 3}, {0, 16}, {0, -1}, {0, math.MinInt}, {1, 2}, {4, 8}, {-8, 8}, {-1, 1}, {16, 1}, {16, 8}, {math.MaxInt, 1}, {math.MaxInt - 7, 8}, {math.MinInt, 8}} {
		if m.Reserve(2, p[0], p[1]) {
			t.Errorf("Reserve(2, %d, %d): true", p[0], p[1])
		}
		held(t, m, 2, p[0], p[1], false)
	}
	for _, hart := range wrongHarts() {
		if m.Reserve(hart, 0, 8) {
			t.Errorf("Reserve(%d, 0, 8): true", hart)
		}
		held(t, m, hart, 0, 8, false)
		held(t, m, hart, 8, 4, false)
	}
	held(t, m, 2, 8, 4, true)
	reserve(t, m, 2, 8, 4)
	held(t, m, 2, 8, 4, true)
}

// P12.3: harts may have the same place, or such as overlap.
func TestReserveSame(t *testing.T) {
	m := ram.New(image(8))
	reserve(t, m, 0, 0, 8)
	reserve(t, m, 1, 0, 8)
	reserve(t, m, 2, 4, 4)
	held(t, m, 0, 0, 8, true)
	held(t, m, 1, 0, 8, true)
	held(t, m, 2, 4, 4, true)
	store(t, m, 0, api.Write{Addr: 4, Size: 4})
	held(t, m, 0, 0, 8, true)
	held(t, m, 1, 0, 8, false)
	held(t, m, 2, 4, 4, false)
}

// P12.3
func TestDrop(t *testing.T) {
	m := ram.New(image(16))
	for hart := range api.Harts {
		m.Drop(hart)
		reserve(t, m, hart, 8, 8)
	}
	for _, hart := range wrongHarts() {
		m.Drop(hart)
	}
	m.Drop(1)
	held(t, m, 1, 8, 8, false)
	held(t, m, 1, 0, 0, false)
	m.Drop(1)
	held(t, m, 1, 8, 8, false)
	held(t, m, 0, 8, 8, true)
	held(t, m, 2, 8, 8, true)
	reserve(t, m, 1, 8, 8)
	held(t, m, 1, 8, 8, true)
	is(t, m, image(16), first(16))
}

// P12.2, P12.5: a hart's own stores leave its reservation, wherever they are.
func TestOwnStores(t *testing.T) {
	for hart := range api.Harts {
		m := ram.New(image(32))
		reserve(t, m, hart, 8, 8)
		for _, size := range []int{1, 2, 4, 8} {
			for addr := 0; addr < 32; addr += size {
				store(t, m, hart, api.Write{Id: addr, Addr: addr, Size: size, Data: 5})
				held(t, m, hart, 8, 8, true)
			}
		}
	}
}

// P12.2, P12.5: another hart's stores that overlap end it, at its first byte, at its last one, or in all; those ahead of it and behind it don't.
func TestOthersStores(t *testing.T) {
	for _, c := range []struct {
		addr, size int
		ends       bool
	}{
		{8, 1, true}, {9, 1, true}, {11, 1, true}, {8, 2, true}, {10, 2, true}, {8, 4, true}, {8, 8, true},
		{7, 1, false}, {12, 1, false}, {6, 2, false}, {12, 2, false}, {4, 4, false}, {12, 4, false}, {0, 8, false}, {16, 8, false}, {0, 1, false}, {31, 1, false},
	} {
		for hart := range api.Harts {
			for other := range api.Harts {
				m := ram.New(image(32))
				reserve(t, m, hart, 8, 4)
				store(t, m, other, api.Write{Id: 1, Addr: c.addr, Size: c.size})
				held(t, m, hart, 8, 4, other == hart || !c.ends)
				held(t, m, hart, 0, 0, false)
			}
		}
	}
}

// P12.2, P12.5: a store that is wider than the reservation ends it, be it at the store's first byte, at its last one or between.
func TestWideStore(t *testing.T) {
	for addr := range 24 {
		m := ram.New(image(24))
		reserve(t, m, 2, addr, 1)
		store(t, m, 0, api.Write{Addr: 8, Size: 8})
		held(t, m, 2, addr, 1, addr < 8 || addr > 15)
	}
}

// P12.2: a write that is what was there ends a reservation as well; one that was ended doesn't come again.
func TestSameBytes(t *testing.T) {
	m := ram.New(make([]byte, 8))
	reserve(t, m, 0, 0, 1)
	store(t, m, 1, api.Write{Size: 1})
	held(t, m, 0, 0, 1, false)
	store(t, m, 0, api.Write{Size: 1})
	m.Drop(1)
	held(t, m, 0, 0, 1, false)
}

// P12.3: a nil memory has nothing, whatever is asked, and nothing is done to it.
func TestNil(t *testing.T) {
	var m *ram.Ram
	is(t, m, nil, nil)
	for _, size := range sizes() {
		for _, addr := range addresses(8) {
			if x, l, ok := m.Load(addr, size); x != 0 || len(l) > 0 || ok {
				t.Errorf("Load(%d, %d): %#x %d %v", addr, size, x, l, ok)
			}
			for _, hart := range append(wrongHarts(), 0, 1, 2) {
				if m.Store(hart, api.Write{Addr: addr, Size: size}) || m.Reserve(hart, addr, size) || m.Held(hart, addr, size) {
					t.Errorf("hart %d: %d, %d", hart, addr, size)
				}
				m.Drop(hart)
			}
		}
	}
	is(t, m, nil, nil)
}
