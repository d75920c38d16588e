package ram_test

import (
	"slices"
	"testing"

	"undertow/api"
	"undertow/ram"
)

// used is a memory in which something was stored, and its log.
func used(t *testing.T) (*ram.Ram, api.Write) {
	t.Helper()
	m := ram.New(image(8))
	w := api.Write{Id: 6, Addr: 2, Size: 2, Data: 0xabcd}
	store(t, m, 0, w)
	return m, w
}

// whole is a list with its spare room.
func whole[T any](l []T) []T { return l[:cap(l)] }

// fill makes all things of a list x.
func fill[T any](l []T, x T) {
	for k := range l {
		l[k] = x
	}
}

// P12.1: an image that is turned behind New turns no memory, and a memory no image, its spare room neither.
func TestImageCopied(t *testing.T) {
	img := image(16)
	m := ram.New(img[:8])
	store(t, m, 1, api.Write{Id: 2, Addr: 0, Size: 8, Data: 0x5555_5555_5555_5555})
	if !slices.Equal(img, image(16)) {
		t.Errorf("%x", img)
	}
	m = ram.New(img[:8])
	fill(img, 0x77)
	is(t, m, image(8), first(8))
	loads(t, m, 0, 8, 0x0807060504030201, first(8)...)
}

// P12.1: what is done to answers, their spare room too, turns nothing.
func TestAnswersTurned(t *testing.T) {
	m, w := used(t)
	reserve(t, m, 1, 0, 8)
	_, tags, _ := m.Load(0, 8)
	for range 2 { // once more, when some were turned
		fill(whole(m.Bytes()), 0x99)
		fill(whole(m.Tags()), 99)
		fill(whole(m.Log()), api.Write{Id: 99, Size: 1})
		fill(whole(tags), 99)
		_ = append(append(m.Log(), api.Write{Id: 98}), m.Log()...)
		_, tags, _ = m.Load(2, 2)
	}
	is(t, m, []byte{1, 2, 0xcd, 0xab, 5, 6, 7, 8}, []int{-1, -1, 6, 6, -1, -1, -1, -1}, w)
	loads(t, m, 0, 8, 0x08070605_abcd_0201, -1, -1, 6, 6, -1, -1, -1, -1)
	held(t, m, 1, 0, 8, true)
}

// P12.1: what is stored later doesn't turn what was answered.
func TestAnswersKept(t *testing.T) {
	m, w := used(t)
	bytes, tags, log := m.Bytes(), m.Tags(), m.Log()
	_, loaded, _ := m.Load(0, 8)
	for id := range 40 {
		store(t, m, 2, api.Write{Id: id, Addr: 0, Size: 8, Data: 0x3333_3333_3333_3333})
		store(t, m, 2, api.Write{Id: 50, Addr: id % 8, Size: 1, Data: 4})
	}
	if !slices.Equal(bytes, []byte{1, 2, 0xcd, 0xab, 5, 6, 7, 8}) || !slices.Equal(tags, []int{-1, -1, 6, 6, -1, -1, -1, -1}) || !slices.Equal(log, []api.Write{w}) || !slices.Equal(loaded, tags) {
		t.Errorf("%x %d %+v %d", bytes, tags, log, loaded)
	}
	if len(m.Log()) != 81 {
		t.Errorf("%d writes", len(m.Log()))
	}
}

// What is answered again shares nothing with what was answered ahead of it.
func TestAnswersApart(t *testing.T) {
	m, w := used(t)
	bytes, tags, log := m.Bytes(), m.Tags(), m.Log()
	_, loaded, _ := m.Load(0, 8)
	fill(whole(m.Bytes()), 0x99)
	fill(whole(m.Tags()), 99)
	fill(whole(m.Log()), api.Write{})
	_, l, _ := m.Load(0, 8)
	fill(whole(l), 99)
	if !slices.Equal(bytes, []byte{1, 2, 0xcd, 0xab, 5, 6, 7, 8}) || !slices.Equal(tags, []int{-1, -1, 6, 6, -1, -1, -1, -1}) || !slices.Equal(log, []api.Write{w}) || !slices.Equal(loaded, tags) {
		t.Errorf("%x %d %+v %d", bytes, tags, log, loaded)
	}
}
