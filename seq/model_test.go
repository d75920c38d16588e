package seq_test

import (
	"slices"
	"testing"

	"undertow/alu"
	"undertow/api"
	"undertow/asm"
	"undertow/decode"
	"undertow/encode"
	"undertow/ops"
)

// assemble is the image of a source.
func assemble(t *testing.T, source string, size int) []byte {
	t.Helper()
	img, _, line, e := asm.Assemble(source, size)
	if e != api.OK {
		t.Fatalf("%q: line %d: %d", source, line, e)
	}
	return img
}

// read is the instruction of a line, which needs no label.
func read(t *testing.T, line string) api.Inst {
	t.Helper()
	i, e := decode.Decode(uint32(number(assemble(t, line, 4), 0, 4)))
	if e != api.OK {
		t.Fatalf("%q: %d", line, e)
	}
	return i
}

// words are the bytes of words of instructions, and of others.
func words(l ...uint32) []byte {
	var b []byte
	for _, w := range l {
		b = append(b, byte(w), byte(w>>8), byte(w>>16), byte(w>>24))
	}
	return b
}

// number is that of n bytes of a memory.
func number(mem []byte, addr uint64, n int) uint64 {
	x := uint64(0)
	for k := n - 1; k >= 0; k-- {
		x = x<<8 | uint64(mem[addr+uint64(k)])
	}
	return x
}

// low are the low n bytes of a word.
func low(x uint64, n int) uint64 {
	if n == 8 {
		return x
	}
	return x % (1 << (8 * n))
}

// modelFetch is the model's instruction at a place, which it has byte by byte.
func modelFetch(img []byte, pc uint64) (api.Inst, int) {
	w := uint32(0)
	for k := range uint64(4) {
		if pc%4 != 0 || pc+k >= uint64(len(img)) {
			return api.Inst{}, api.CauseFetch
		}
		w |= uint32(img[pc+k]) << (8 * k)
	}
	i, e := decode.Decode(w)
	if e != api.OK {
		return api.Inst{}, api.CauseIllegal
	}
	return i, api.Running
}

// modelCause is why the model's instruction halts a hart.
func modelCause(i api.Inst, addr uint64, size int) int {
	n := uint64(ops.Size(i.Op))
	switch {
	case i.Op == api.ECALL:
		return api.CauseCall
	case i.Op == api.EBREAK:
		return api.CauseBreak
	case n == 0:
		return api.Running
	case addr%n != 0:
		return api.CauseAlign
	case addr >= uint64(size) || uint64(size)-addr < n:
		return api.CauseRange
	}
	return api.Running
}

// modelStep is the model's step.
func modelStep(h api.Hart, img []byte, read uint64, failed bool) (api.Hart, api.Done) {
	h.X[0] = 0
	if h.Cause != 0 {
		return h, api.Done{}
	}
	i, cause := modelFetch(img, h.PC)
	a, b, n := h.X[i.Rs1], h.X[i.Rs2], ops.Size(i.Op)
	addr := uint64(0)
	if n > 0 {
		addr = alu.Address(i, a)
	}
	if cause == 0 {
		cause = modelCause(i, addr, len(img))
	}
	if cause != 0 {
		end := h
		end.Cause = cause
		return end, api.Done{PC: h.PC, Inst: i, Cause: cause, Addr: addr}
	}
	d := api.Done{PC: h.PC, Inst: i, Addr: addr}
	val := alu.Result(i, h.PC, a, b)
	switch ops.Sort(i.Op) {
	case ops.Load, ops.Reserve:
		d.Read, val = low(read, n), alu.Loaded(i.Op, read)
	case ops.Atomic:
		d.Read, val = low(read, n), alu.Loaded(i.Op, read)
		d.Wrote = alu.Stored(i.Op, low(read, n), b)
	case ops.Store:
		d.Wrote = low(b, n)
	case ops.Conditional:
		d.Failed = failed
		if val = 1; !failed {
			d.Wrote, val = low(b, n), 0
		}
	}
	if writes := i.Rd != 0; writes { // an instruction that writes no register has none
		d.Val = val
		h.X[i.Rd] = val
	}
	h.PC = alu.Next(i, d.PC, a, b)
	return h, d
}

// modelAlone is the model's run of a hart alone; its reservation is a list of an address and a size, or of nothing.
func modelAlone(h api.Hart, img []byte, most int) (api.Hart, []byte, []api.Done) {
	h.X[0] = 0
	mem := slices.Clone(img)
	var l []api.Done
	var held []uint64
	for k := 0; k < most && k < 100_000 && h.Cause == 0; k++ {
		i, _ := modelFetch(img, h.PC)
		addr, n := alu.Address(i, h.X[i.Rs1]), ops.Size(i.Op)
		raw := uint64(0)
		if alu.Where(i.Op, addr, len(mem)) == api.OK {
			raw = number(mem, addr, n)
		}
		mine := slices.Equal(held, []uint64{addr, uint64(n)})
		var d api.Done
		h, d = modelStep(h, img, raw, !mine)
		l = append(l, d)
		switch ops.Sort(i.Op) {
		case ops.Reserve:
			held = []uint64{addr, uint64(n)}
		case ops.Conditional:
			held = nil
		}
		if ops.Stores(i.Op) && d.Cause == 0 && !d.Failed {
			for k := range n {
				mem[addr+uint64(k)] = byte(d.Wrote >> (8 * k))
			}
		}
	}
	return h, mem, l
}

// draw is a source of numbers that are as good as any, and the same each time.
type draw uint64

// of is one of n numbers, from 0 on.
func (d *draw) of(n int) int {
	*d = *d*6364136223846793005 + 1442695040888963407
	return int(uint64(*d) >> 33 % uint64(n))
}

// word is a word, often one of few bits or near an end.
func (d *draw) word() uint64 {
	x := uint64(d.of(1<<31))<<33 ^ uint64(d.of(1<<31))<<11 ^ uint64(d.of(1<<31))
	switch d.of(4) {
	case 0:
		return x >> d.of(64)
	case 1:
		return uint64(int64(x) >> d.of(64))
	case 2:
		return 1<<d.of(64) + uint64(d.of(5)) - 2
	}
	return x
}

// hart is a hart whose registers from 1 to 7 are any words, those from 8 on places of a memory of size bytes, and some near it.
func (d *draw) hart(size int) api.Hart {
	h := api.Hart{X: [32]uint64{d.word()}}
	for r := 1; r < 8; r++ {
		h.X[r] = d.word()
	}
	for r := 8; r < 32; r++ {
		h.X[r] = uint64(d.of(size/8+1) * 8)
		switch d.of(12) {
		case 0:
			h.X[r] += uint64(d.of(8))
		case 1:
			h.X[r] = uint64(size - d.of(17) + 8)
		case 2:
			h.X[r] = uint64(-d.of(17))
		}
	}
	return h
}

// inst is a right instruction, whose place, if it has one, is often within a memory of few bytes.
func (d *draw) inst() api.Inst {
	for {
		i := api.Inst{Op: 1 + d.of(api.MaxOp), Rd: d.of(8), Rs1: d.of(10), Rs2: d.of(8)}
		switch d.of(3) {
		case 0:
			i.Op = api.LRW + d.of(4)
		case 1:
			i.Op = api.LB + d.of(api.SD-api.LB+1)
		}
		if d.of(40) == 0 {
			i.Rd = 8
		}
		if ops.Halt == ops.Sort(i.Op) && d.of(4) > 0 {
			continue
		}
		i = decode.Clean(i)
		switch ops.Sort(i.Op) {
		case ops.Upper:
			i.Imm = int64(d.of(9)-4) * 4096
		case ops.Jump, ops.Branch:
			i.Imm = int64(d.of(9)-3) * 4
		case ops.Load, ops.Store:
			i.Rs1 = []int{0, 8, 8, 9, 9}[d.of(5)]
			i.Imm = int64(d.of(4) * ops.Size(i.Op))
		case ops.Reserve, ops.Conditional, ops.Atomic:
			i.Rs1 = 8 + d.of(2)
			i.Aq, i.Rl = d.of(2) == 0, d.of(2) == 0
		case ops.Number:
			i.Imm = int64(d.of(32))
		case ops.Fence:
			i.Pred, i.Succ = d.of(16), d.of(16)
			if i.Op == api.TSO {
				i.Pred, i.Succ = 3, 3
			}
		}
		if encode.Right(i) {
			return i
		}
	}
}

// image is the bytes of right instructions, and of some words that are none's.
func (d *draw) image(size int) []byte {
	img := make([]byte, size)
	for at := 0; at+4 <= size; at += 4 {
		w, _ := encode.Encode(d.inst())
		if d.of(60) == 0 {
			w = uint32(d.word())
		}
		copy(img[at:], words(w))
	}
	return img
}
