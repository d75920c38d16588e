package sbuf_test

import (
	"math"
	"slices"
	"testing"

	"undertow/api"
	"undertow/sbuf"
)

// of is a buffer into which stores were put.
func of(t *testing.T, stores ...api.Write) *sbuf.Buffer {
	t.Helper()
	b := &sbuf.Buffer{}
	put(t, b, stores...)
	return b
}

// put puts what there is room for.
func put(t *testing.T, b *sbuf.Buffer, stores ...api.Write) {
	t.Helper()
	for _, w := range stores {
		if !b.Fits(w) || !b.Put(w) {
			t.Errorf("%+v isn't put", w)
		}
	}
}

// refuses holds that stores aren't put, and that nothing is done.
func refuses(t *testing.T, b *sbuf.Buffer, stores ...api.Write) {
	t.Helper()
	entries, ready, elder := b.Entries(), b.Ready(), b.Elder()
	for _, w := range stores {
		if b.Fits(w) || b.Put(w) {
			t.Errorf("%+v is put", w)
		}
		is(t, b, entries...)
		if !slices.Equal(b.Ready(), ready) || b.Elder() != elder {
			t.Errorf("%+v: Ready %d, Elder %v", w, b.Ready(), b.Elder())
		}
	}
}

// is holds a buffer's entries against those that are wanted.
func is(t *testing.T, b *sbuf.Buffer, entries ...[]api.Write) {
	t.Helper()
	if !same(b.Entries(), entries) || b.Empty() != (len(entries) == 0) {
		t.Errorf("%+v, Empty %v, not %+v", b.Entries(), b.Empty(), entries)
	}
}

// same says whether two lists of entries are one.
func same(l, m [][]api.Write) bool { return slices.EqualFunc(l, m, slices.Equal[[]api.Write]) }

// ready holds the places of the entries that may go against those that are wanted.
func ready(t *testing.T, b *sbuf.Buffer, want ...int) {
	t.Helper()
	if !slices.Equal(b.Ready(), want) {
		t.Errorf("Ready: %d, not %d", b.Ready(), want)
	}
}

// drain holds what is told by letting an entry go against what is wanted.
func drain(t *testing.T, b *sbuf.Buffer, k int, want ...api.Write) {
	t.Helper()
	if l := b.Drain(k); !slices.Equal(l, want) {
		t.Errorf("Drain(%d): %+v, not %+v", k, l, want)
	}
}

// find holds what is found at a byte against what is wanted.
func find(t *testing.T, b *sbuf.Buffer, at int, want byte, id int) {
	t.Helper()
	if x, i, ok := b.Find(at); x != want || i != id || !ok {
		t.Errorf("Find(%d): %#x of %d, %v, not %#x of %d", at, x, i, ok, want, id)
	}
}

// none holds that at some bytes nothing is found.
func none(t *testing.T, b *sbuf.Buffer, bytes ...int) {
	t.Helper()
	for _, at := range bytes {
		if x, id, ok := b.Find(at); x != 0 || id != 0 || ok {
			t.Errorf("Find(%d): %#x of %d, %v", at, x, id, ok)
		}
	}
}

// row are n stores of one byte each, of as many blocks, the numbers from id on.
func row(id, n int) []api.Write {
	var l []api.Write
	for k := range n {
		l = append(l, api.Write{Id: id + k, Addr: 8 * k, Size: 1, Data: uint64(id + k)})
	}
	return l
}

// pile are n stores of one byte each, all of the block at addr, the numbers from id on.
func pile(id, addr, n int) []api.Write {
	var l []api.Write
	for k := range n {
		l = append(l, api.Write{Id: id + k, Addr: addr + k%8, Size: 1, Data: uint64(id + k)})
	}
	return l
}

// P13.1: how many there may be.
func TestLimits(t *testing.T) {
	if sbuf.Slots != 4 || sbuf.Most != 8 {
		t.Errorf("%d %d", sbuf.Slots, sbuf.Most)
	}
}

// The chapter's example.
func TestExample(t *testing.T) {
	low, high, last := api.Write{Id: 1, Addr: 0, Size: 4, Data: 0x04030201}, api.Write{Id: 2, Addr: 4, Size: 4, Data: 0x08070605}, api.Write{Id: 3, Addr: 0, Size: 1, Data: 9}
	b := of(t, low, high)
	is(t, b, []api.Write{low, high})
	b.Barrier()
	put(t, b, last)
	is(t, b, []api.Write{low, high}, []api.Write{last})
	ready(t, b, 0)
	find(t, b, 0, 9, 3)
	find(t, b, 1, 2, 1)
	find(t, b, 4, 5, 2)
}

// The zero buffer is empty, of the epoch 0: a barrier does nothing to it, so that no entry is an elder one.
func TestZero(t *testing.T) {
	b := &sbuf.Buffer{}
	for range 2 {
		is(t, b)
		ready(t, b)
		none(t, b, 0, 1, 8, -1, math.MaxInt, math.MinInt)
		drain(t, b, 0)
		if b.Elder() || b.Overlaps(0, 8) {
			t.Error("something is there")
		}
		b.Barrier()
	}
	put(t, b, row(0, 1)...)
	if b.Elder() {
		t.Error("an elder one")
	}
	ready(t, b, 0)
}

// P13.1, P13.2, P13.3, P13.4: a nil buffer has nothing, and nothing is done to it.
func TestNil(t *testing.T) {
	var b *sbuf.Buffer
	for range 2 {
		for _, w := range append(row(0, 2), api.Write{Id: -1, Size: 3}) {
			if b.Fits(w) || b.Put(w) {
				t.Errorf("%+v is put", w)
			}
		}
		b.Barrier()
		is(t, b)
		ready(t, b)
		none(t, b, 0, 1, -1, math.MaxInt)
		for _, k := range []int{0, 1, -1, math.MaxInt, math.MinInt} {
			drain(t, b, k)
		}
		if b.Elder() || b.Overlaps(0, 8) || b.Overlaps(-1, 0) {
			t.Error("something is there")
		}
	}
}

// P13.1: stores of one block, in whatever order they come, are one entry's, in that order; those of two are two entries'.
func TestBlocks(t *testing.T) {
	a := api.Write{Id: 4, Addr: 16, Size: 8, Data: math.MaxUint64}
	z := api.Write{Id: 3, Addr: 23, Size: 1, Data: 1}
	c := api.Write{Id: 9, Addr: 15, Size: 1, Data: 2}
	d := api.Write{Id: 1, Addr: 24, Size: 2, Data: 3}
	e := api.Write{Id: 2, Addr: 20, Size: 4, Data: 4}
	f := api.Write{Id: 0, Addr: 8, Size: 2, Data: 5}
	is(t, of(t, a), []api.Write{a})
	is(t, of(t, a, z), []api.Write{a, z})
	is(t, of(t, z, a), []api.Write{z, a})
	is(t, of(t, a, c), []api.Write{a}, []api.Write{c})
	is(t, of(t, c, a), []api.Write{c}, []api.Write{a})
	is(t, of(t, a, d), []api.Write{a}, []api.Write{d})
	is(t, of(t, a, c, z, d, e, f, a), []api.Write{a, z, e, a}, []api.Write{c, f}, []api.Write{d})
}

// P13.1: each two places that may be are one entry's just if their bytes are of the same eight.
func TestBlockPairs(t *testing.T) {
	for _, n := range []int{1, 2, 4, 8} {
		for _, m := range []int{1, 2, 4, 8} {
			for i := 0; i <= 24; i += n {
				for j := 0; j <= 24; j += m {
					v, w := api.Write{Id: 1, Addr: i, Size: n}, api.Write{Id: 2, Addr: j, Size: m}
					if i-i%8 == j-j%8 {
						is(t, of(t, v, w), []api.Write{v, w})
					} else {
						is(t, of(t, v, w), []api.Write{v}, []api.Write{w})
					}
				}
			}
		}
	}
}

// P13.1: a buffer has room for Slots entries; one that is full still takes stores of its entries' blocks.
func TestSlots(t *testing.T) {
	b, next := &sbuf.Buffer{}, api.Write{Id: 9, Addr: 8 * sbuf.Slots, Size: 8}
	var want [][]api.Write
	for _, w := range row(1, sbuf.Slots) {
		is(t, b, want...)
		put(t, b, w)
		want = append(want, []api.Write{w})
	}
	is(t, b, want...)
	refuses(t, b, next, api.Write{Id: 0, Addr: 1016, Size: 1})
	for k := range sbuf.Slots {
		w := api.Write{Id: 20 + k, Addr: 8*k + 4, Size: 4, Data: 7}
		put(t, b, w)
		want[k] = append(want[k], w)
	}
	is(t, b, want...)
	refuses(t, b, next)
	drain(t, b, 2, want[2]...)
	put(t, b, next)
	is(t, b, want[0], want[1], want[3], []api.Write{next})
	refuses(t, b, want[2]...)
}

// P13.1: an entry has room for Most stores; one that is full takes no more of its block, whether there is room for a new entry or not, and the others still do.
func TestMost(t *testing.T) {
	b, full := &sbuf.Buffer{}, pile(10, 0, sbuf.Most)
	for k, w := range full {
		put(t, b, w)
		is(t, b, full[:k+1])
	}
	refuses(t, b, pile(30, 0, 8)...)
	refuses(t, b, api.Write{Id: 40, Addr: 0, Size: 8})
	put(t, b, row(50, sbuf.Slots)[1:]...)
	refuses(t, b, pile(30, 0, 8)...)
	refuses(t, b, api.Write{Id: 40, Addr: 8 * sbuf.Slots, Size: 1})
	put(t, b, pile(60, 8, sbuf.Most-1)...)
	refuses(t, b, pile(70, 8, 1)...)
	put(t, b, pile(80, 16, 1)...)
	is(t, b, full, append(row(50, 2)[1:], pile(60, 8, 7)...), append(row(50, 3)[2:], pile(80, 16, 1)...), row(50, 4)[3:])
	drain(t, b, 0, full...)
	put(t, b, pile(30, 0, sbuf.Most)...)
	refuses(t, b, full...)
}

// P13.1: a store of the block of an elder epoch's entry makes a new one, where there is room for that, however many stores the elder one has.
func TestElderBlock(t *testing.T) {
	for _, n := range []int{1, 2, sbuf.Most} {
		b, elder, new := of(t, pile(0, 8, n)...), pile(0, 8, n), pile(20, 8, 3)
		b.Barrier()
		put(t, b, new[:2]...)
		is(t, b, elder, new[:2])
		b.Barrier()
		put(t, b, new[2])
		is(t, b, elder, new[:2], new[2:])
	}
	b := of(t, row(0, sbuf.Slots)...)
	b.Barrier()
	refuses(t, b, row(10, sbuf.Slots+1)...)
	drain(t, b, 0, row(0, 1)...)
	put(t, b, row(0, 2)[1])
	refuses(t, b, row(10, 1)...)
	put(t, b, row(10, 2)[1])
	is(t, b, row(0, 2)[1:], row(0, 3)[2:], row(0, 4)[3:], []api.Write{row(0, 2)[1], row(10, 2)[1]})
}

// P13.1: of Data just the low bytes, with each size, in the first block and the last one.
func TestData(t *testing.T) {
	const data = 0xfedc_ba98_7654_3210
	bytes := []byte{0x10, 0x32, 0x54, 0x76, 0x98, 0xba, 0xdc, 0xfe}
	for size, low := range map[int]uint64{1: 0x10, 2: 0x3210, 4: 0x7654_3210, 8: data} {
		for _, addr := range []int{0, size, 1016, 1024 - size, 1024} {
			w, kept := api.Write{Id: 5, Addr: addr, Size: size, Data: data}, api.Write{Id: 5, Addr: addr, Size: size, Data: low}
			b := of(t, w)
			is(t, b, []api.Write{kept})
			for k := range size {
				find(t, b, addr+k, bytes[k], 5)
			}
			none(t, b, addr-1, addr+size)
			drain(t, b, 0, kept)
		}
	}
}

// P13.1: Ids from 0 on, the greatest one, and one twice; none below 0.
func TestIds(t *testing.T) {
	ids := []int{0, 1, math.MaxInt - 1, math.MaxInt, 0, 0}
	b, want := &sbuf.Buffer{}, []api.Write(nil)
	for k, id := range ids {
		want = append(want, api.Write{Id: id, Addr: 4, Size: 2, Data: uint64(k)})
		put(t, b, want[k])
		find(t, b, 4, byte(k), id)
	}
	is(t, b, want)
	for _, id := range []int{-1, -2, math.MinInt} {
		refuses(t, b, api.Write{Id: id, Addr: 4, Size: 2}, api.Write{Id: id, Addr: 8, Size: 8})
		refuses(t, &sbuf.Buffer{}, api.Write{Id: id, Addr: 4, Size: 2})
	}
}

// P13.1: which places may be, in an empty buffer, and in one that has their blocks already.
func TestPlaces(t *testing.T) {
	for _, size := range sizes() {
		for _, addr := range addresses() {
			w := api.Write{Id: 3, Addr: addr, Size: size, Data: 1}
			if may(w) {
				is(t, of(t, w), []api.Write{w})
				is(t, of(t, w, w), []api.Write{w, w})
				continue
			}
			refuses(t, &sbuf.Buffer{}, w)
			refuses(t, of(t, api.Write{Id: 1, Size: 8}, api.Write{Id: 2, Addr: 1024, Size: 8}), w)
		}
	}
}

// P13.1: the last place of each size, and the first one that may not be.
func TestLastPlaces(t *testing.T) {
	for _, size := range []int{1, 2, 4, 8} {
		b := of(t, api.Write{Id: 1, Addr: 1024 - size, Size: size}, api.Write{Id: 2, Addr: 1024, Size: size})
		if len(b.Entries()) != 2 {
			t.Errorf("%+v", b.Entries())
		}
		refuses(t, b, api.Write{Id: 3, Addr: 1024 + size, Size: size}, api.Write{Id: 3, Addr: 1032, Size: size})
	}
}

// P13.1: Fits tells what Put would, and does nothing.
func TestFitsDoesNothing(t *testing.T) {
	b := of(t, row(0, 2)...)
	b.Barrier()
	for range 3 {
		for _, w := range append(row(5, sbuf.Slots), api.Write{Id: 7, Addr: 512, Size: 8}) {
			if !b.Fits(w) {
				t.Errorf("%+v doesn't fit", w)
			}
		}
		if b.Fits(api.Write{Id: -1, Size: 8}) || b.Fits(api.Write{Addr: 4, Size: 8}) {
			t.Error("what may not be fits")
		}
		is(t, b, row(0, 1), row(0, 2)[1:])
	}
}
