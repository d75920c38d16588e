package field_test

import (
	"math"
	"testing"

	"undertow/field"
)

// form is a format as its table row tells it: its immediates, and the word's bits that have one's bits, from the highest one down.
type form struct {
	name              string
	format            int
	least, most, step int64
	bits              []int
}

func forms() []form {
	return []form{
		{"I", field.FormatI, -2048, 2047, 1, []int{31, 30, 29, 28, 27, 26, 25, 24, 23, 22, 21, 20}},
		{"S", field.FormatS, -2048, 2047, 1, []int{31, 30, 29, 28, 27, 26, 25, 11, 10, 9, 8, 7}},
		{"B", field.FormatB, -4096, 4094, 2, []int{31, 7, 30, 29, 28, 27, 26, 25, 11, 10, 9, 8}},
		{"U", field.FormatU, -1 << 31, 1<<31 - 4096, 4096, []int{31, 30, 29, 28, 27, 26, 25, 24, 23, 22, 21, 20, 19, 18, 17, 16, 15, 14, 13, 12}},
		{"J", field.FormatJ, -1 << 20, 1<<20 - 2, 2, []int{31, 19, 18, 17, 16, 15, 14, 13, 12, 20, 30, 29, 28, 27, 26, 25, 24, 23, 22, 21}},
	}
}

// has says whether an immediate is one of the format's.
func (f form) has(imm int64) bool {
	return f.least <= imm && imm <= f.most && imm%f.step == 0
}

// word is the word of an immediate that is one of the format's.
func (f form) word(imm int64) uint32 {
	steps := imm / f.step
	var w uint32
	for k := range f.bits {
		w |= uint32(steps>>k&1) << f.bits[len(f.bits)-1-k]
	}
	return w
}

// imm is the immediate of a word: its highest bit's share is below 0.
func (f form) imm(w uint32) int64 {
	share := f.least
	var imm int64
	for _, bit := range f.bits {
		imm += share * int64(w>>bit&1)
		share = max(share, -share) / 2
	}
	return imm
}

// mask is the word of the bits that an immediate has.
func (f form) mask() uint32 {
	var w uint32
	for _, bit := range f.bits {
		w |= 1 << bit
	}
	return w
}

// check puts an immediate, and gets it back.
func (f form) check(t *testing.T, imm int64) {
	t.Helper()
	w, ok := field.Put(f.format, imm)
	if ok != f.has(imm) {
		t.Fatalf("%s: Put(%d): %#x %v", f.name, imm, w, ok)
	}
	if !ok {
		if w != 0 {
			t.Fatalf("%s: Put(%d): %#x beside a false", f.name, imm, w)
		}
		return
	}
	if w != f.word(imm) {
		t.Fatalf("%s: Put(%d): %#x, not %#x", f.name, imm, w, f.word(imm))
	}
	if got := field.Get(f.format, w); got != imm {
		t.Fatalf("%s: Get(%#x): %d, not %d", f.name, w, got, imm)
	}
}

// words are those of no bit, of one, of all but one, of all, of all on one side of a bit, and many others.
func words() []uint32 {
	l := []uint32{0, math.MaxUint32, 0x5555_5555, 0xaaaa_aaaa, 0x0123_4567, 0xfedc_ba98, 0x8000_0001, 0x7fff_fffe}
	for k := range 32 {
		l = append(l, 1<<k, ^uint32(1<<k), 1<<k-1, -(uint32(1) << k))
	}
	x := uint64(1)
	for range 5000 {
		x = x*6364136223846793005 + 1442695040888963407
		l = append(l, uint32(x>>32))
	}
	return l
}

// notFormats are numbers of no format.
func notFormats() []int {
	l := []int{math.MinInt, math.MinInt + 1, math.MinInt + 3, -1 << 32, 1<<32 + 1, 1<<32 + 5, 1 << 62, math.MaxInt - 1, math.MaxInt}
	for k := range 30 {
		l = append(l, -k, 6+k)
	}
	for k := 3; k < 63; k++ {
		l = append(l, 1<<k, 1<<k|field.FormatI, 1<<k|field.FormatJ)
	}
	return l
}

func TestFormats(t *testing.T) {
	for k, f := range forms() {
		if f.format != k+1 {
			t.Errorf("%s is %d", f.name, f.format)
		}
	}
}

// P4.1 and P4.2: as it is written down.
func TestWrittenDown(t *testing.T) {
	for _, c := range []struct {
		format int
		imm    int64
		w      uint32
	}{
		{field.FormatI, 0, 0}, {field.FormatI, 1, 0x0010_0000}, {field.FormatI, -1, 0xfff0_0000}, {field.FormatI, 10, 0x00a0_0000}, {field.FormatI, 2047, 0x7ff0_0000}, {field.FormatI, -2048, 0x8000_0000}, {field.FormatI, -2047, 0x8010_0000}, {field.FormatI, 1024, 0x4000_0000},
		{field.FormatS, 0, 0}, {field.FormatS, 1, 0x0000_0080}, {field.FormatS, -1, 0xfe00_0f80}, {field.FormatS, 31, 0x0000_0f80}, {field.FormatS, 32, 0x0200_0000}, {field.FormatS, 64, 0x0400_0000}, {field.FormatS, 2047, 0x7e00_0f80}, {field.FormatS, -2048, 0x8000_0000},
		{field.FormatB, 0, 0}, {field.FormatB, 2, 0x0000_0100}, {field.FormatB, -2, 0xfe00_0f80}, {field.FormatB, -4, 0xfe00_0e80}, {field.FormatB, 30, 0x0000_0f00}, {field.FormatB, 32, 0x0200_0000}, {field.FormatB, 1024, 0x4000_0000}, {field.FormatB, 2048, 0x0000_0080}, {field.FormatB, 4094, 0x7e00_0f80}, {field.FormatB, -4096, 0x8000_0000},
		{field.FormatU, 0, 0}, {field.FormatU, 4096, 0x0000_1000}, {field.FormatU, -4096, 0xffff_f000}, {field.FormatU, 0x1234_5000, 0x1234_5000}, {field.FormatU, 0x7fff_f000, 0x7fff_f000}, {field.FormatU, -1 << 31, 0x8000_0000},
		{field.FormatJ, 0, 0}, {field.FormatJ, 2, 0x0020_0000}, {field.FormatJ, -2, 0xffff_f000}, {field.FormatJ, -4, 0xffdf_f000}, {field.FormatJ, 1024, 0x4000_0000}, {field.FormatJ, 2046, 0x7fe0_0000}, {field.FormatJ, 2048, 0x0010_0000}, {field.FormatJ, 4096, 0x0000_1000}, {field.FormatJ, 0x8_0000, 0x0008_0000}, {field.FormatJ, 1<<20 - 2, 0x7fff_f000}, {field.FormatJ, -1 << 20, 0x8000_0000},
	} {
		if w, ok := field.Put(c.format, c.imm); w != c.w || !ok {
			t.Errorf("Put(%d, %d): %#x %v, not %#x", c.format, c.imm, w, ok, c.w)
		}
		if imm := field.Get(c.format, c.w); imm != c.imm {
			t.Errorf("Get(%d, %#x): %d, not %d", c.format, c.w, imm, c.imm)
		}
	}
}

// P4.1: immediates that are none of a format's, each beside one that is.
func TestPutRefuses(t *testing.T) {
	for _, c := range []struct {
		format int
		imm    int64
	}{
		{field.FormatI, 2048}, {field.FormatI, -2049}, {field.FormatI, 4095}, {field.FormatI, 4096}, {field.FormatI, 1 << 32}, {field.FormatI, 1<<32 + 1},
		{field.FormatS, 2048}, {field.FormatS, -2049}, {field.FormatS, 4096}, {field.FormatS, -1 << 32},
		{field.FormatB, 1}, {field.FormatB, -1}, {field.FormatB, 3}, {field.FormatB, 4093}, {field.FormatB, 4095}, {field.FormatB, 4096}, {field.FormatB, -4095}, {field.FormatB, -4097}, {field.FormatB, -4098}, {field.FormatB, 8192},
		{field.FormatU, 1}, {field.FormatU, -1}, {field.FormatU, 2048}, {field.FormatU, 4095}, {field.FormatU, 4097}, {field.FormatU, 1<<31 - 4095}, {field.FormatU, 1<<31 - 1}, {field.FormatU, 1 << 31}, {field.FormatU, -1<<31 - 4096}, {field.FormatU, -1<<31 - 1}, {field.FormatU, -1<<31 + 1}, {field.FormatU, 1 << 32}, {field.FormatU, 1<<32 + 4096},
		{field.FormatJ, 1}, {field.FormatJ, -1}, {field.FormatJ, 1<<20 - 1}, {field.FormatJ, 1 << 20}, {field.FormatJ, -1<<20 - 1}, {field.FormatJ, -1<<20 - 2}, {field.FormatJ, -1<<20 + 1}, {field.FormatJ, 1 << 21},
	} {
		if w, ok := field.Put(c.format, c.imm); w != 0 || ok {
			t.Errorf("Put(%d, %d): %#x %v", c.format, c.imm, w, ok)
		}
	}
}

// P4.1, and of P4.3 that an immediate comes back: all that are small.
func TestPut(t *testing.T) {
	for _, f := range forms() {
		for imm := int64(-10000); imm <= 10000; imm++ {
			f.check(t, imm)
		}
	}
}

// P4.1 and P4.3: at the ends of the formats' ranges, and at all powers of two.
func TestPutEnds(t *testing.T) {
	ends := []int64{math.MinInt64, math.MaxInt64}
	for k := range 63 {
		ends = append(ends, 1<<k, -1<<k)
	}
	for _, f := range forms() {
		for _, end := range append(ends, f.least, f.most, 2*f.least, 2*f.most) {
			for d := int64(-9); d <= 9; d++ {
				f.check(t, end+d) // beyond an end of int64 it comes round to the other one
				f.check(t, end+d*f.step)
				f.check(t, end+d<<32)
			}
		}
	}
}

// P4.1 and P4.3: every immediate of every format.
func TestPutAll(t *testing.T) {
	for _, f := range forms() {
		for imm := f.least; imm <= f.most; imm += f.step {
			f.check(t, imm)
		}
	}
}

// P4.1: a number that has an immediate's low bits, but others above them, isn't that immediate.
func TestPutAliases(t *testing.T) {
	for _, f := range forms() {
		for _, imm := range []int64{0, f.step, -f.step, f.least, f.most} {
			for k := 32; k < 64; k++ {
				for _, other := range []int64{imm + 1<<k, imm - 1<<k} {
					if w, ok := field.Put(f.format, other); w != 0 || ok {
						t.Errorf("%s: Put(%d): %#x %v", f.name, other, w, ok)
					}
				}
			}
		}
	}
}

// P4.2
func TestGet(t *testing.T) {
	for _, f := range forms() {
		for _, w := range words() {
			if got := field.Get(f.format, w); got != f.imm(w) {
				t.Fatalf("%s: Get(%#x): %d, not %d", f.name, w, got, f.imm(w))
			}
		}
	}
}

// P4.2: words of no immediate's bits, of all bits, and of the sign alone.
func TestGetEdges(t *testing.T) {
	for _, f := range forms() {
		for _, c := range []struct {
			w    uint32
			want int64
		}{
			{0, 0}, {^f.mask(), 0}, {math.MaxUint32, -f.step}, {f.mask(), -f.step}, {1 << 31, f.least}, {math.MaxUint32 >> 1, f.most}, {0x7f, 0},
		} {
			if got := field.Get(f.format, c.w); got != c.want {
				t.Errorf("%s: Get(%#x): %d, not %d", f.name, c.w, got, c.want)
			}
		}
	}
}

// P4.2
func TestMask(t *testing.T) {
	for _, c := range []struct {
		format int
		want   uint32
	}{
		{field.FormatI, 0xfff0_0000}, {field.FormatS, 0xfe00_0f80}, {field.FormatB, 0xfe00_0f80}, {field.FormatU, 0xffff_f000}, {field.FormatJ, 0xffff_f000},
	} {
		if got := field.Mask(c.format); got != c.want {
			t.Errorf("Mask(%d): %#x, not %#x", c.format, got, c.want)
		}
	}
	for _, f := range forms() {
		if got := field.Mask(f.format); got != f.mask() {
			t.Errorf("%s: %#x, not %#x", f.name, got, f.mask())
		}
	}
}

// P4.1 and P4.2: where there is no such format.
func TestNoFormat(t *testing.T) {
	imms := []int64{0, 1, -1, 2, 4096, -4096, 2047, math.MinInt64, math.MaxInt64}
	for _, format := range notFormats() {
		for _, imm := range imms {
			if w, ok := field.Put(format, imm); w != 0 || ok {
				t.Errorf("Put(%d, %d): %#x %v", format, imm, w, ok)
			}
		}
		for _, w := range []uint32{0, 1, 1 << 7, 1 << 20, 1 << 31, 0x00a0_0093, math.MaxUint32} {
			if got := field.Get(format, w); got != 0 {
				t.Errorf("Get(%d, %#x): %d", format, w, got)
			}
		}
		if got := field.Mask(format); got != 0 {
			t.Errorf("Mask(%d): %#x", format, got)
		}
	}
}

// P4.3: what is put again has just the word's bits that the mask has.
func TestPutOfGet(t *testing.T) {
	for _, f := range forms() {
		for _, w := range words() {
			if got, ok := field.Put(f.format, field.Get(f.format, w)); !ok || got != w&field.Mask(f.format) {
				t.Fatalf("%s: Put(Get(%#x)): %#x %v, not %#x", f.name, w, got, ok, w&field.Mask(f.format))
			}
		}
	}
}

// P4.3: a bit turns the immediate if, and only if, the mask has it.
func TestOtherBits(t *testing.T) {
	for _, f := range forms() {
		mask := field.Mask(f.format)
		for _, w := range words() {
			imm := field.Get(f.format, w)
			for k := range 32 {
				if turned := field.Get(f.format, w^1<<k) != imm; turned != (mask>>k&1 == 1) {
					t.Fatalf("%s: %#x, bit %d: %v", f.name, w, k, turned)
				}
			}
			if field.Get(f.format, w|^mask) != imm || field.Get(f.format, w&mask) != imm {
				t.Fatalf("%s: %#x: other bits", f.name, w)
			}
		}
	}
}
