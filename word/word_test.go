package word_test

import (
	"math"
	"slices"
	"testing"

	"undertow/word"
)

// samples are words whose bits are unlike at the edges of bytes and halves.
func samples() []uint64 {
	l := []uint64{0, 1, 0x7f, 0x80, 0xff, 0x8000, 0x7fff_ffff, 0x8000_0000, 0x0123_4567_89ab_cdef, 0xfedc_ba98_7654_3210, 1 << 63, math.MaxInt64, math.MaxUint64}
	for n := range 64 {
		l = append(l, 1<<n, 1<<n-1, ^uint64(1<<n))
	}
	return l
}

// widths are numbers of bits or bytes: those that may be, and those at and beyond their edges.
func widths() []int {
	l := []int{math.MinInt, math.MinInt + 1, -1 << 40, 1 << 40, math.MaxInt - 1, math.MaxInt}
	for n := -70; n <= 140; n++ {
		l = append(l, n)
	}
	return l
}

func bit(x uint64, k int) uint64 {
	if k < 0 || k > 63 {
		return 0
	}
	return x >> k & 1
}

// P1.1
func TestZext(t *testing.T) {
	for _, x := range samples() {
		for _, n := range widths() {
			got := word.Zext(x, n)
			for k := range 64 {
				want := bit(x, k)
				if k >= n {
					want = 0
				}
				if bit(got, k) != want {
					t.Fatalf("Zext(%#x, %d) = %#x: bit %d", x, n, got, k)
				}
			}
		}
	}
}

// P1.1
func TestSext(t *testing.T) {
	for _, x := range samples() {
		for _, n := range widths() {
			got := word.Sext(x, n)
			for k := range 64 {
				want := bit(x, k)
				if k >= n {
					want = bit(x, n-1)
				}
				if bit(got, k) != want {
					t.Fatalf("Sext(%#x, %d) = %#x: bit %d", x, n, got, k)
				}
			}
		}
	}
}

// P1.1
func TestExtendExamples(t *testing.T) {
	for _, c := range []struct {
		x          uint64
		n          int
		sext, zext uint64
	}{
		{0x80, 8, 0xffff_ffff_ffff_ff80, 0x80},
		{0x7f, 8, 0x7f, 0x7f},
		{0x180, 8, 0xffff_ffff_ffff_ff80, 0x80},
		{1, 1, math.MaxUint64, 1},
		{2, 1, 0, 0},
		{0xffff_ffff, 32, math.MaxUint64, 0xffff_ffff},
		{0x1_7fff_ffff, 32, 0x7fff_ffff, 0x7fff_ffff},
		{1 << 62, 63, 3 << 62, 1 << 62},
		{1 << 63, 63, 0, 0},
		{1 << 63, 64, 1 << 63, 1 << 63},
		{1 << 63, 65, 1 << 63, 1 << 63},
		{math.MaxUint64, 0, 0, 0},
		{math.MaxUint64, -1, 0, 0},
		{math.MaxUint64, math.MinInt, 0, 0},
		{0xfedc, math.MaxInt, 0xfedc, 0xfedc},
	} {
		if got := word.Sext(c.x, c.n); got != c.sext {
			t.Errorf("Sext(%#x, %d) = %#x, not %#x", c.x, c.n, got, c.sext)
		}
		if got := word.Zext(c.x, c.n); got != c.zext {
			t.Errorf("Zext(%#x, %d) = %#x, not %#x", c.x, c.n, got, c.zext)
		}
	}
}

// P1.2
func TestField(t *testing.T) {
	for _, w := range []uint32{0, 1, 0xabcd_1234, 0x8000_0001, 0x5555_5555, 0xaaaa_aaaa, math.MaxUint32} {
		for hi := -3; hi <= 66; hi++ {
			for lo := -3; lo <= 66; lo++ {
				var want uint32
				if 31 >= hi && hi >= lo && lo >= 0 {
					for k := lo; k <= hi; k++ {
						want |= uint32(bit(uint64(w), k)) << (k - lo)
					}
				}
				if got := word.Field(w, hi, lo); got != want {
					t.Fatalf("Field(%#x, %d, %d) = %#x, not %#x", w, hi, lo, got, want)
				}
			}
		}
	}
}

// P1.2
func TestFieldEdges(t *testing.T) {
	for _, c := range []struct {
		w      uint32
		hi, lo int
		want   uint32
	}{
		{0xabcd_1234, 15, 8, 0x12},
		{0xabcd_1234, 31, 0, 0xabcd_1234},
		{0xabcd_1234, 31, 31, 1},
		{0xabcd_1234, 2, 2, 1},
		{math.MaxUint32, 31, -1, 0},
		{math.MaxUint32, 32, 31, 0},
		{math.MaxUint32, 7, 8, 0},
		{math.MaxUint32, math.MaxInt, math.MinInt, 0},
		{math.MaxUint32, math.MinInt, math.MaxInt, 0},
		{math.MaxUint32, 31, math.MinInt, 0},
		{math.MaxUint32, math.MaxInt, 0, 0},
	} {
		if got := word.Field(c.w, c.hi, c.lo); got != c.want {
			t.Errorf("Field(%#x, %d, %d) = %#x, not %#x", c.w, c.hi, c.lo, got, c.want)
		}
	}
}

// P1.3
func TestBytes(t *testing.T) {
	if got := word.Bytes(0x0102, 3); !slices.Equal(got, []byte{2, 1, 0}) {
		t.Error(got)
	}
	for _, x := range samples() {
		for _, n := range widths() {
			var want []byte
			for k := 0; k < 8 && k < n; k++ {
				want = append(want, byte(x/uint64(math.Pow(2, float64(8*k)))%256))
			}
			if got := word.Bytes(x, n); !slices.Equal(got, want) {
				t.Fatalf("Bytes(%#x, %d) = %x, not %x", x, n, got, want)
			}
		}
	}
}

// P1.3 and rule 4: an answer is new memory.
func TestBytesAreNew(t *testing.T) {
	a := word.Bytes(0x0807_0605_0403_0201, 4)
	for k := range a[:cap(a)] {
		a[:cap(a)][k] = 0xee
	}
	if b := word.Bytes(0x0807_0605_0403_0201, 8); !slices.Equal(b, []byte{1, 2, 3, 4, 5, 6, 7, 8}) {
		t.Error(b)
	}
}

// P1.3
func TestOf(t *testing.T) {
	all := []byte{0xef, 0xcd, 0xab, 0x89, 0x67, 0x45, 0x23, 0x81, 0xff, 0xff, 0xff}
	want := []uint64{0, 0xef, 0xcdef, 0xab_cdef, 0x89ab_cdef, 0x67_89ab_cdef, 0x4567_89ab_cdef, 0x23_4567_89ab_cdef, 0x8123_4567_89ab_cdef, 0x8123_4567_89ab_cdef, 0x8123_4567_89ab_cdef, 0x8123_4567_89ab_cdef}
	for n, x := range want {
		if got := word.Of(all[:n]); got != x {
			t.Errorf("Of(%x) = %#x, not %#x", all[:n], got, x)
		}
	}
	if word.Of(nil) != 0 || word.Of([]byte{}) != 0 {
		t.Error("of nothing")
	}
	if got := word.Of([]byte{2, 1}); got != 0x102 {
		t.Errorf("%#x", got)
	}
}

// P1.3 and rule 4: what is handed in stays, its spare room too.
func TestOfLeavesItsBytes(t *testing.T) {
	all := []byte{1, 2, 3, 4, 5}
	word.Of(all[:2])
	if !slices.Equal(all, []byte{1, 2, 3, 4, 5}) {
		t.Error(all)
	}
}

// overlap is what Overlap must be, told without going through bytes.
func overlap(a, n, b, m int) bool {
	const last = 1 << 40
	for _, x := range []int{n, m} {
		if x < 1 || x > 8 {
			return false
		}
	}
	for _, x := range []int{a, b} {
		if x < 0 || x > last {
			return false
		}
	}
	return a < b+m && b < a+n
}

// P1.4, and of P1.5 that it is the same either way.
func TestOverlap(t *testing.T) {
	places := []int{math.MinInt, math.MinInt + 7, math.MaxInt - 7, math.MaxInt}
	for k := -10; k <= 20; k++ {
		places = append(places, k, 1<<40+k)
	}
	sizes := []int{math.MinInt, math.MaxInt}
	for n := -2; n <= 10; n++ {
		sizes = append(sizes, n)
	}
	for _, a := range places {
		for _, n := range sizes {
			for _, b := range places {
				for _, m := range sizes {
					got := word.Overlap(a, n, b, m)
					if got != overlap(a, n, b, m) {
						t.Fatalf("Overlap(%d, %d, %d, %d): %v", a, n, b, m, got)
					}
					if got != word.Overlap(b, m, a, n) {
						t.Fatalf("Overlap(%d, %d, %d, %d): not the same either way", a, n, b, m)
					}
				}
			}
		}
	}
}

// P1.4
func TestOverlapEdges(t *testing.T) {
	for _, c := range []struct {
		a, n, b, m int
		want       bool
	}{
		{0, 4, 3, 1, true},
		{0, 4, 4, 8, false},
		{5, 1, 0, 8, true},
		{8, 1, 0, 8, false},
		{0, 0, 0, 8, false},
		{0, 9, 0, 8, false},
		{0, 8, 0, 9, false},
		{0, -1, 0, 8, false},
		{-1, 8, 0, 8, false},
		{0, 8, -1, 8, false},
		{1 << 40, 1, 1 << 40, 8, true},
		{1<<40 - 7, 8, 1 << 40, 1, true},
		{1<<40 - 8, 8, 1 << 40, 1, false},
		{1<<40 + 1, 1, 1<<40 + 1, 1, false},
		{1 << 40, 8, 1<<40 + 1, 1, false},
	} {
		if word.Overlap(c.a, c.n, c.b, c.m) != c.want {
			t.Errorf("Overlap(%d, %d, %d, %d) isn't %v", c.a, c.n, c.b, c.m, c.want)
		}
	}
}

// P1.4
func TestAligned(t *testing.T) {
	for a := -40; a <= 40; a++ {
		for n := -9; n <= 70; n++ {
			want := (n == 1 || n == 2 || n == 4 || n == 8) && a >= 0 && a/max(n, 1)*n == a
			if word.Aligned(a, n) != want {
				t.Fatalf("Aligned(%d, %d) isn't %v", a, n, want)
			}
		}
	}
	for _, n := range []int{1, 2, 4, 8} {
		if !word.Aligned(0, n) || !word.Aligned(math.MaxInt-7, n) || word.Aligned(math.MinInt, n) {
			t.Errorf("an edge of size %d", n)
		}
	}
	if !word.Aligned(math.MaxInt, 1) || word.Aligned(math.MaxInt, 2) || word.Aligned(0, 0) || word.Aligned(0, 16) || word.Aligned(0, math.MinInt) || word.Aligned(0, math.MaxInt) {
		t.Error("an edge")
	}
}

// P1.5
func TestBytesAndBack(t *testing.T) {
	for _, x := range samples() {
		for n := -2; n <= 12; n++ {
			if got := word.Of(word.Bytes(x, n)); got != word.Zext(x, 8*n) {
				t.Fatalf("Of(Bytes(%#x, %d)) = %#x", x, n, got)
			}
		}
	}
}

// P1.5
func TestSextTwice(t *testing.T) {
	for _, x := range samples() {
		for _, n := range widths() {
			once := word.Sext(x, n)
			if got := word.Sext(once, n); got != once {
				t.Fatalf("Sext(Sext(%#x, %d)) = %#x, not %#x", x, n, got, once)
			}
			if word.Zext(once, n) != word.Zext(x, n) {
				t.Fatalf("Sext(%#x, %d) turned a low bit", x, n)
			}
		}
	}
}
