package seq_test

import (
	"math"
	"testing"

	"undertow/api"
	"undertow/decode"
	"undertow/encode"
	"undertow/seq"
)

// fetched holds what Fetch answers.
func fetched(t *testing.T, img []byte, pc uint64, want api.Inst, cause int) {
	t.Helper()
	if i, c := seq.Fetch(img, pc); i != want || c != cause {
		t.Errorf("%d bytes at %x: %+v %d, not %+v %d", len(img), pc, i, c, want, cause)
	}
}

// P11.1: the ends of images of 0, of 3, of 4, of 7, of 8 bytes, and of MaxMemory.
func TestFetchEnds(t *testing.T) {
	nop, call := api.Inst{Op: api.ADDI}, api.Inst{Op: api.ECALL}
	full := make([]byte, 0, api.MaxMemory)
	for len(full) < api.MaxMemory-4 {
		full = append(full, words(0x13)...)
	}
	full = append(full, words(0x73)...)
	eight := words(0x13, 0x73)
	for _, c := range []struct {
		img   []byte
		pc    uint64
		want  api.Inst
		cause int
	}{
		{nil, 0, api.Inst{}, api.CauseFetch}, {nil, 4, api.Inst{}, api.CauseFetch}, {[]byte{}, 0, api.Inst{}, api.CauseFetch}, {eight[:0], 0, api.Inst{}, api.CauseFetch},
		{eight[:3], 0, api.Inst{}, api.CauseFetch}, {eight[:3], 3, api.Inst{}, api.CauseFetch}, {eight[:3], 4, api.Inst{}, api.CauseFetch}, {eight[:1], 0, api.Inst{}, api.CauseFetch},
		{eight[:4], 0, nop, 0}, {eight[:4], 4, api.Inst{}, api.CauseFetch}, {eight[:4], 1, api.Inst{}, api.CauseFetch}, {eight[:4], 2, api.Inst{}, api.CauseFetch}, {eight[:4], 3, api.Inst{}, api.CauseFetch},
		{eight[:7], 0, nop, 0}, {eight[:7], 4, api.Inst{}, api.CauseFetch}, {eight[:5], 4, api.Inst{}, api.CauseFetch}, {eight[:6], 4, api.Inst{}, api.CauseFetch},
		{eight, 0, nop, 0}, {eight, 4, call, 0}, {eight, 2, api.Inst{}, api.CauseFetch}, {eight, 5, api.Inst{}, api.CauseFetch}, {eight, 8, api.Inst{}, api.CauseFetch},
		{full, 0, nop, 0}, {full, 1016, nop, 0}, {full, 1020, call, 0}, {full, 1024, api.Inst{}, api.CauseFetch}, {full, 1022, api.Inst{}, api.CauseFetch}, {full, 1021, api.Inst{}, api.CauseFetch}, {full, 1028, api.Inst{}, api.CauseFetch},
		{full, 1 << 32, api.Inst{}, api.CauseFetch}, {full, 1<<32 + 4, api.Inst{}, api.CauseFetch}, {full, 1 << 63, api.Inst{}, api.CauseFetch}, {full, 1<<63 + 4, api.Inst{}, api.CauseFetch}, {full, 1<<63 - 4, api.Inst{}, api.CauseFetch},
		{full, math.MaxUint64, api.Inst{}, api.CauseFetch}, {full, math.MaxUint64 - 1, api.Inst{}, api.CauseFetch}, {full, math.MaxUint64 - 3, api.Inst{}, api.CauseFetch}, {full, math.MaxUint64 - 7, api.Inst{}, api.CauseFetch},
		{nil, math.MaxUint64 - 3, api.Inst{}, api.CauseFetch}, {eight[:3], math.MaxUint64 - 3, api.Inst{}, api.CauseFetch}, {eight[:4], math.MaxUint64 - 3, api.Inst{}, api.CauseFetch},
	} {
		fetched(t, c.img, c.pc, c.want, c.cause)
	}
}

// P11.1: words that are none's, where they stand and where they don't.
func TestFetchIllegal(t *testing.T) {
	for _, w := range []uint32{0, math.MaxUint32, 0x0000_1067, 0x0000_2063, 0x0000_7003, 0x0000_4023, 0x4000_1013, 0x0000_000b, 0x0020_0073, 0x0000_00f3, 0x1010_202f, 0x0000_102f, 0x8000_0033, 0x0000_0001} {
		img := words(0x13, w)
		fetched(t, img, 4, api.Inst{}, api.CauseIllegal)
		fetched(t, img, 0, api.Inst{Op: api.ADDI}, 0)
		fetched(t, img, 5, api.Inst{}, api.CauseFetch)
		fetched(t, img, 6, api.Inst{}, api.CauseFetch)
		fetched(t, img[:7], 4, api.Inst{}, api.CauseFetch)
	}
}

// P11.1: an instruction of every operation, and any words, by their four bytes, wherever they stand.
func TestFetchWords(t *testing.T) {
	d := draw(111)
	seen := [api.MaxOp + 1]bool{}
	for range 4000 {
		size := d.of(60)
		img := d.image(size)
		for pc := range uint64(size + 9) {
			want, cause := modelFetch(img, pc)
			fetched(t, img, pc, want, cause)
			fetched(t, img, pc+1<<32, api.Inst{}, api.CauseFetch)
			seen[want.Op] = true
		}
	}
	for op := range api.MaxOp + 1 {
		if !seen[op] {
			t.Errorf("there was no %d", op)
		}
	}
	for op := 1; op <= api.MaxOp; op++ {
		i := decode.Clean(api.Inst{Op: op, Rd: 31, Rs1: 30, Rs2: 29})
		if op == api.TSO {
			i.Pred, i.Succ = 3, 3
		}
		w, e := encode.Encode(i)
		if e != api.OK {
			t.Fatal(op, e)
		}
		fetched(t, words(0, w), 4, i, 0)
	}
}
