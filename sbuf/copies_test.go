package sbuf_test

import (
	"slices"
	"testing"

	"undertow/api"
	"undertow/sbuf"
)

// whole is a list with its spare room.
func whole[T any](l []T) []T { return l[:cap(l)] }

// fill makes all things of a list x.
func fill[T any](l []T, x T) {
	for k := range l {
		l[k] = x
	}
}

// spoil turns all that was answered of a buffer, its spare room too.
func spoil(l [][]api.Write) {
	for _, stores := range l {
		fill(whole(stores), api.Write{Id: 99, Addr: 512, Size: 1, Data: 99})
		_ = append(stores, api.Write{Id: 98})
	}
	fill(whole(l), []api.Write{{Id: 97}})
}

// used is a buffer of three entries, of two epochs, and what they are.
func used(t *testing.T) (*sbuf.Buffer, [][]api.Write) {
	t.Helper()
	b := of(t, append(pile(0, 0, 3), pile(10, 8, 5)...)...)
	b.Barrier()
	put(t, b, pile(20, 0, 2)...)
	return b, [][]api.Write{pile(0, 0, 3), pile(10, 8, 5), pile(20, 0, 2)}
}

// P13.3, P13.4: what is done to what Entries and Ready answered turns nothing.
func TestAnswersTurned(t *testing.T) {
	b, want := used(t)
	for range 2 { // once more, when some were turned
		spoil(b.Entries())
		fill(whole(b.Ready()), 7)
		is(t, b, want...)
		ready(t, b, 0, 1)
		find(t, b, 0, 20, 20)
		none(t, b, 512)
	}
	put(t, b, pile(30, 0, 6)...)
	is(t, b, want[0], want[1], append(want[2], pile(30, 0, 6)...))
}

// P13.3: what is done to what Drain answered turns nothing, whichever entry went, nor what comes behind it.
func TestDrainedTurned(t *testing.T) {
	for k := range 2 {
		b, want := used(t)
		l := b.Drain(k)
		fill(whole(l), api.Write{Id: 99, Addr: 512, Size: 1, Data: 99})
		_ = append(l, api.Write{Id: 98})
		want = slices.Delete(want, k, k+1)
		is(t, b, want...)
		put(t, b, pile(30, 0, 1)...)
		put(t, b, pile(40, 16, 8)...)
		is(t, b, want[0], append(want[1], pile(30, 0, 1)...), pile(40, 16, 8))
		fill(whole(l), api.Write{Id: 96, Addr: 8, Size: 8})
		is(t, b, want[0], append(want[1], pile(30, 0, 1)...), pile(40, 16, 8))
	}
}

// P13.3, P13.4: what is put and drained later doesn't turn what was answered.
func TestAnswersKept(t *testing.T) {
	b, want := used(t)
	entries, places := b.Entries(), b.Ready()
	gone := b.Drain(0)
	for id := 100; id < 140; id++ {
		b.Put(api.Write{Id: id, Addr: id % 3 * 8, Size: 8, Data: uint64(id)})
		if id%5 == 0 {
			b.Barrier()
		}
		b.Drain(id % 2)
	}
	if !same(entries, want) || !slices.Equal(places, []int{0, 1}) || !slices.Equal(gone, want[0]) {
		t.Errorf("%+v %d %+v", entries, places, gone)
	}
}

// P13.3, P13.4: two answers share nothing, and the lists of one neither.
func TestAnswersApart(t *testing.T) {
	b, want := used(t)
	entries, places := b.Entries(), b.Ready()
	spoil(b.Entries())
	fill(whole(b.Ready()), 7)
	if !same(entries, want) || !slices.Equal(places, []int{0, 1}) {
		t.Errorf("%+v %d", entries, places)
	}
	for k := range entries {
		l := b.Entries()
		fill(whole(l[k]), api.Write{Id: 99})
		for j := range l {
			if j != k && !slices.Equal(l[j], want[j]) {
				t.Errorf("entry %d turned with %d", j, k)
			}
		}
	}
}

// Two buffers share nothing.
func TestBuffersApart(t *testing.T) {
	b, want := used(t)
	c := of(t, row(50, sbuf.Slots)...)
	c.Barrier()
	c.Drain(0)
	c.Put(api.Write{Id: 60, Size: 8})
	is(t, b, want...)
	ready(t, b, 0, 1)
}
