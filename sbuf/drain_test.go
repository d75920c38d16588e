package sbuf_test

import (
	"math"
	"slices"
	"testing"

	"undertow/api"
	"undertow/sbuf"
)

// elder holds whether an entry is ahead of a barrier against what is wanted.
func elder(t *testing.T, b *sbuf.Buffer, want bool) {
	t.Helper()
	if b.Elder() != want {
		t.Errorf("Elder: %v", !want)
	}
}

// P13.2: behind a barrier a store of the same block is another entry's; twice in a row it is as once.
func TestBarrier(t *testing.T) {
	for _, times := range []int{1, 2, 5} {
		b, l := of(t, row(0, 2)...), pile(10, 0, 2)
		for range times {
			b.Barrier()
		}
		is(t, b, row(0, 1), row(0, 2)[1:])
		put(t, b, l...)
		is(t, b, row(0, 1), row(0, 2)[1:], l)
		ready(t, b, 0, 1)
	}
}

// P13.2: a barrier of an empty buffer, and of one whose entries are all elder ones, does nothing: what comes behind it is of the same epoch as what came ahead of it.
func TestBarrierOfNone(t *testing.T) {
	b := of(t, row(0, 2)...)
	b.Barrier()
	drain(t, b, 0, row(0, 1)...)
	b.Barrier()
	put(t, b, pile(10, 16, 1)...)
	ready(t, b, 0)
	drain(t, b, 0, row(0, 2)[1:]...)
	elder(t, b, false)
	put(t, b, pile(20, 16, 1)...)
	is(t, b, append(pile(10, 16, 1), pile(20, 16, 1)...))
	drain(t, b, 0, append(pile(10, 16, 1), pile(20, 16, 1)...)...)
	b.Barrier()
	put(t, b, row(30, 2)...)
	elder(t, b, false)
	ready(t, b, 0, 1)
}

// P13.2: of bytes that several stores of one entry have it is the last one's, whatever their numbers are.
func TestFindInOne(t *testing.T) {
	b := of(t, api.Write{Id: 7, Addr: 8, Size: 8, Data: 0x1716151413121110}, api.Write{Id: 2, Addr: 10, Size: 2, Data: 0x2322}, api.Write{Id: 5, Addr: 11, Size: 1, Data: 0x33}, api.Write{Id: 0, Addr: 12, Size: 4, Data: 0x47464544})
	for k, x := range []byte{0x10, 0x11, 0x22, 0x33, 0x44, 0x45, 0x46, 0x47} {
		find(t, b, 8+k, x, []int{7, 7, 2, 5, 0, 0, 0, 0}[k])
	}
	none(t, b, 7, 16, 0, -1, -8, 1024, 1<<40, math.MaxInt, math.MinInt, math.MinInt+8)
	put(t, b, api.Write{Id: 1, Addr: 8, Size: 8, Data: 0})
	for k := range 8 {
		find(t, b, 8+k, 0, 1)
	}
}

// P13.2: of bytes that stores of two entries have it is the later entry's, also where a store of another block came behind it, till that one is drained.
func TestFindInTwo(t *testing.T) {
	b := of(t, api.Write{Id: 6, Addr: 0, Size: 8, Data: 0x1716151413121110})
	b.Barrier()
	put(t, b, api.Write{Id: 3, Addr: 8, Size: 8, Data: math.MaxUint64}, api.Write{Id: 4, Addr: 0, Size: 4, Data: 0x23222120}, api.Write{Id: 5, Addr: 8, Size: 1, Data: 0x77})
	b.Barrier()
	put(t, b, api.Write{Id: 1, Addr: 2, Size: 1, Data: 0x32})
	bytes, ids := []byte{0x20, 0x21, 0x32, 0x23, 0x14, 0x15, 0x16, 0x17, 0x77, 0xff}, []int{4, 4, 1, 4, 6, 6, 6, 6, 5, 3}
	for at, x := range bytes {
		find(t, b, at, x, ids[at])
	}
	b.Drain(0)
	none(t, b, 4, 5, 6, 7)
	for _, at := range []int{0, 1, 2, 3, 8, 9} {
		find(t, b, at, bytes[at], ids[at])
	}
	b.Drain(1)
	none(t, b, 0, 1, 3)
	find(t, b, 2, 0x32, 1)
}

// P13.2: a byte just ahead of a store, and one just behind it, isn't found; all of its own are.
func TestFindBeside(t *testing.T) {
	for _, size := range []int{1, 2, 4, 8} {
		for addr := 0; addr <= 1024; addr += size {
			b := of(t, api.Write{Id: 8, Addr: addr, Size: size, Data: 0x0706050403020100})
			none(t, b, addr-1, addr+size)
			for k := range size {
				find(t, b, addr+k, byte(k), 8)
			}
		}
	}
}

// P13.3: Ready of none, of one epoch's entries, of two epochs', of three.
func TestReady(t *testing.T) {
	b := &sbuf.Buffer{}
	ready(t, b)
	put(t, b, row(0, 1)...)
	ready(t, b, 0)
	put(t, b, row(0, 2)[1])
	ready(t, b, 0, 1)
	b.Barrier()
	ready(t, b, 0, 1)
	put(t, b, row(10, 1)...)
	ready(t, b, 0, 1)
	b.Barrier()
	put(t, b, row(20, 1)...)
	ready(t, b, 0, 1)
	b.Drain(1)
	ready(t, b, 0)
	b.Drain(0)
	ready(t, b, 0)
	is(t, b, row(10, 1), row(20, 1))
	b.Drain(0)
	ready(t, b, 0)
	b.Drain(0)
	ready(t, b)
}

// P13.3: the first, the last and a middle entry goes; the others stay in their order.
func TestDrain(t *testing.T) {
	for k := range sbuf.Slots {
		b, want := of(t, row(0, sbuf.Slots)...), [][]api.Write(nil)
		for j, w := range row(0, sbuf.Slots) {
			if j != k {
				want = append(want, []api.Write{w})
			}
		}
		drain(t, b, k, row(0, sbuf.Slots)[k])
		is(t, b, want...)
		ready(t, b, 0, 1, 2)
		drain(t, b, 3)
		is(t, b, want...)
	}
}

// P13.3: all of an entry's stores are told, in the order in which they came.
func TestDrainAll(t *testing.T) {
	for n := 1; n <= sbuf.Most; n++ {
		l := pile(3, 8, n)
		slices.Reverse(l)
		b := of(t, append(row(0, 1), l...)...)
		drain(t, b, 1, l...)
		is(t, b, row(0, 1))
		drain(t, b, 0, row(0, 1)...)
		is(t, b)
		drain(t, b, 0)
	}
}

// P13.3: a place of no entry, and of one that isn't ready, lets nothing go, and nothing is done.
func TestDrainNone(t *testing.T) {
	b := of(t, row(0, 2)...)
	b.Barrier()
	put(t, b, row(10, 2)...)
	for _, k := range []int{2, 3, 4, 5, -1, -2, -4, math.MaxInt, math.MinInt, 1 << 32} {
		drain(t, b, k)
		is(t, b, row(0, 1), row(0, 2)[1:], row(10, 1), row(10, 2)[1:])
		ready(t, b, 0, 1)
		elder(t, b, true)
		find(t, b, 0, 10, 10)
	}
	refuses(t, b, row(20, 4)[3])
}

// P13.3: behind a Drain a new entry comes to the end, also one of the block that went.
func TestDrainThenPut(t *testing.T) {
	for k := range sbuf.Slots {
		b := of(t, row(0, sbuf.Slots)...)
		l := b.Entries()
		drain(t, b, k, l[k]...)
		w := api.Write{Id: 30, Addr: 8*k + 4, Size: 4, Data: 0x0102}
		put(t, b, w)
		is(t, b, append(slices.Delete(l, k, k+1), []api.Write{w})...)
		ready(t, b, 0, 1, 2, 3)
		none(t, b, 8*k)
		find(t, b, 8*k+4, 2, 30)
	}
}

// P13.4: Elder ahead of a barrier, behind one, with a new entry behind that, and behind the last elder entry's Drain.
func TestElder(t *testing.T) {
	b := of(t, row(0, 2)...)
	elder(t, b, false)
	b.Barrier()
	elder(t, b, true)
	put(t, b, row(10, 1)...)
	elder(t, b, true)
	b.Drain(0)
	elder(t, b, true)
	b.Drain(0)
	elder(t, b, false)
	is(t, b, row(10, 1))
	b.Barrier()
	elder(t, b, true)
	b.Drain(0)
	elder(t, b, false)
	is(t, b)
}

// P13.4: a place is overlapped as layer 1 says, by any store of any entry, also a place that isn't a multiple of its size.
func TestOverlaps(t *testing.T) {
	b := of(t, api.Write{Id: 1, Addr: 10, Size: 2}, api.Write{Id: 2, Addr: 9, Size: 1}, api.Write{Id: 3, Addr: 24, Size: 8})
	b.Barrier()
	put(t, b, api.Write{Id: 4, Addr: 12, Size: 4}, api.Write{Id: 5, Addr: 1024, Size: 1})
	has := map[int]bool{1024: true}
	for k := 9; k < 16; k++ {
		has[k] = true
	}
	for k := 24; k < 32; k++ {
		has[k] = true
	}
	for _, size := range sizes() {
		for _, addr := range addresses() {
			want := false
			for k := range max(0, min(size, 9)) {
				want = want || has[addr+k] && addr >= 0 && size <= 8
			}
			if b.Overlaps(addr, size) != want {
				t.Errorf("Overlaps(%d, %d): %v", addr, size, !want)
			}
		}
	}
	b.Drain(0)
	b.Drain(0)
	if b.Overlaps(8, 4) || b.Overlaps(24, 8) || !b.Overlaps(8, 8) || !b.Overlaps(15, 1) || b.Overlaps(16, 8) {
		t.Error("behind Drain")
	}
}
