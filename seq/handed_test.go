package seq_test

import (
	"bytes"
	"slices"
	"testing"

	"undertow/api"
	"undertow/seq"
)

// storing is a program that stores over all of its first bytes.
func storing(t *testing.T) []byte {
	return assemble(t, "sd x1, 0(x0)\nsd x1, 8(x0)\nlr.d x2, (x0)\nsc.d x3, x2, (x0)\namoadd.d x4, x1, (x0)\nhalt", 32)
}

// What is handed in isn't changed, its spare room included.
func TestHandedIn(t *testing.T) {
	img := append(storing(t), bytes.Repeat([]byte{0xee}, 40)...)
	before := slices.Clone(img)
	h := api.Hart{X: registers(0x0102_0304_0506_0708, 2)}
	own := h
	_, mem, _ := seq.Alone(h, img[:32], 100)
	seq.Step(h, img[:32], 7, false)
	seq.Fetch(img[:32], 0)
	seq.Fetch(img[:32], 32)
	if !bytes.Equal(img, before) || h != own {
		t.Errorf("%x, not %x", img, before)
	}
	if len(mem) != 32 || bytes.Equal(mem, img[:32]) {
		t.Errorf("%x", mem)
	}
}

// An answer is new memory, its spare room too, and the same each time.
func TestAnswers(t *testing.T) {
	img := append(storing(t), bytes.Repeat([]byte{0xee}, 40)...)
	before := slices.Clone(img)
	h := api.Hart{X: registers(0x0102_0304_0506_0708, 2)}
	end, mem, l := seq.Alone(h, img[:32], 100)
	wantMem, want := slices.Clone(mem), slices.Clone(l)
	for _, b := range [][]byte{mem, mem[:cap(mem)]} {
		for k := range b {
			b[k] = 0x55
		}
	}
	for k := range l[:cap(l)] {
		l[:cap(l)][k] = api.Done{PC: 99}
	}
	if !bytes.Equal(img, before) {
		t.Errorf("%x, not %x", img, before)
	}
	endAgain, memAgain, again := seq.Alone(h, img[:32], 100)
	if endAgain != end || !bytes.Equal(memAgain, wantMem) || !slices.Equal(again, want) {
		t.Errorf("%+v %x %+v", endAgain, memAgain, again)
	}
}

// Every call ends, and none panics, of images of no memory's size too; what is beneath MaxMemory is fetched from them.
func TestLongImages(t *testing.T) {
	d := draw(114)
	for _, size := range []int{api.MaxMemory + 1, api.MaxMemory + 4, 5000} {
		img := bytes.Repeat(words(0x13), size/4+1)[:size]
		fetched(t, img, api.MaxMemory-4, api.Inst{Op: api.ADDI}, 0)
		fetched(t, img, uint64(size+4), api.Inst{}, api.CauseFetch)
		for range 50 {
			h := d.hart(size)
			h.PC = uint64(d.of(size/4) * 4)
			seq.Step(h, d.image(size), d.word(), false)
			seq.Alone(h, d.image(size), 100)
		}
	}
}
