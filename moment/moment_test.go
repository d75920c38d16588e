package moment_test

import (
	"math"
	"slices"
	"testing"

	"undertow/moment"
)

// limit is the last step that has a moment.
const limit = 1 << 53

var low = math.Copysign(0, -1)

// nevers are NaNs of different bits: quiet and signalling ones, of both signs.
func nevers() []float64 {
	var l []float64
	for _, bits := range []uint64{0x7ff8_0000_0000_0000, 0x7ff8_0000_0000_0001, 0x7ff0_0000_0000_0001, 0x7fff_ffff_ffff_ffff, 0xfff8_0000_0000_0000, 0xfff0_0000_0000_0001, math.MaxUint64} {
		l = append(l, math.Float64frombits(bits))
	}
	return l
}

// inOrder are moments that are not Never, each ahead of the next.
func inOrder() []float64 {
	return []float64{
		math.Inf(-1), -math.MaxFloat64, -limit - 2, -limit, -limit + 1, -5, -1, -0.5, -0x1p-1022, -math.SmallestNonzeroFloat64, low,
		0, math.SmallestNonzeroFloat64, 0x1p-1022, 0.5, math.Nextafter(1, 0), 1, math.Nextafter(1, 2), 2, 2.5, 3, 1 << 31, 1 << 32, 1 << 52, 1<<52 + 1, limit - 2, limit - 1, limit, limit + 2, 1 << 62, 1 << 63, 1 << 64, math.MaxFloat64, math.Inf(1),
	}
}

// rank is a number that stands among those of other moments as its moment stands among them.
func rank(m float64) int64 {
	x := int64(math.Float64bits(m))
	switch {
	case x&(1<<63-1) > 0x7ff0_0000_0000_0000:
		return math.MaxInt64
	case x < 0:
		return -1 - x&(1<<63-1)
	}
	return x
}

// samples are moments of all kinds.
func samples() []float64 { return append(inOrder(), nevers()...) }

// mixed is a list of moments of all kinds that come again and again, in no order.
func mixed(n int) []float64 {
	from := samples()
	l := make([]float64, n)
	x := uint64(n) + 1
	for k := range l {
		x = x*6364136223846793005 + 1442695040888963407
		l[k] = from[x>>33%uint64(len(from))]
	}
	return l
}

// P2.1
func TestThree(t *testing.T) {
	if m := moment.First(); !math.IsInf(m, -1) {
		t.Error("first", m)
	}
	if m := moment.Later(); !math.IsInf(m, 1) {
		t.Error("later", m)
	}
	if m := moment.Never(); !math.IsNaN(m) {
		t.Error("never", m)
	}
}

// P2.1
func TestOf(t *testing.T) {
	for _, n := range []int{0, 1, 2, 3, 5, 1000, 1<<31 - 1, 1 << 31, 1<<32 + 1, 1<<52 + 1, limit - 2, limit - 1, limit} {
		m, ok := moment.Of(n)
		if !ok || math.Signbit(m) || math.IsNaN(m) || int(m) != n {
			t.Errorf("Of(%d): %v %v", n, m, ok)
		}
	}
	for _, n := range []int{-1, -2, -limit, limit + 1, limit + 2, 1 << 54, 1<<62 + 1, math.MaxInt, math.MinInt, math.MinInt + 1} {
		if m, ok := moment.Of(n); ok || !math.IsNaN(m) {
			t.Errorf("Of(%d): %v %v", n, m, ok)
		}
	}
}

// P2.1
func TestStep(t *testing.T) {
	for _, n := range []int{0, 1, 2, 3, 5, 1000, 1<<31 - 1, 1 << 31, 1<<32 + 1, 1<<52 + 1, limit - 2, limit - 1, limit} {
		if got, ok := moment.Step(float64(n)); !ok || got != n {
			t.Errorf("Step(%d): %d %v", n, got, ok)
		}
	}
	none := append(nevers(), math.Inf(-1), math.Inf(1), low, -1, -2, -limit, -0.5, 0.5, 1.5, math.SmallestNonzeroFloat64, -math.SmallestNonzeroFloat64,
		math.Nextafter(1, 0), math.Nextafter(1, 2), 1<<51+0.5, 1<<52-0.5, limit+2, math.Nextafter(limit, math.Inf(1)), 1<<54, 1<<63, 1<<64, math.MaxFloat64, -math.MaxFloat64)
	for _, m := range none {
		if got, ok := moment.Step(m); ok || got != 0 {
			t.Errorf("Step(%v): %d %v", m, got, ok)
		}
	}
}

// P2.1: a step's moment is of that step, and no other moment of any.
func TestThereAndBack(t *testing.T) {
	for _, n := range []int{0, 1, 77, 1 << 40, limit - 1, limit} {
		m, _ := moment.Of(n)
		if got, ok := moment.Step(m); !ok || got != n {
			t.Errorf("Step(Of(%d)): %d %v", n, got, ok)
		}
	}
	for _, m := range samples() {
		n, ok := moment.Step(m)
		if back, _ := moment.Of(n); ok && !moment.Same(back, m) {
			t.Errorf("Of(Step(%v)): %v", m, back)
		}
	}
}

// P2.2
func TestLessAndSame(t *testing.T) {
	l := samples()
	for _, a := range l {
		for _, b := range l {
			if got := moment.Less(a, b); got != (rank(a) < rank(b)) {
				t.Errorf("Less(%v, %v): %v", a, b, got)
			}
			if got := moment.Same(a, b); got != (rank(a) == rank(b)) {
				t.Errorf("Same(%v, %v): %v", a, b, got)
			}
		}
	}
}

// P2.2: the order as it is written down, without a rank.
func TestOrderWrittenDown(t *testing.T) {
	l := append(inOrder(), math.NaN())
	for i, a := range l {
		for k, b := range l {
			if moment.Less(a, b) != (i < k) || moment.Same(a, b) != (i == k) {
				t.Errorf("%v and %v: %v %v", a, b, moment.Less(a, b), moment.Same(a, b))
			}
		}
	}
}

// P2.2: both noughts are two moments, all NaNs one.
func TestNoughtsAndNevers(t *testing.T) {
	if !moment.Less(low, 0) || moment.Less(0, low) || moment.Same(low, 0) || moment.Same(0, low) || !moment.Same(low, low) || !moment.Same(0, 0) {
		t.Error("noughts")
	}
	for _, a := range nevers() {
		for _, b := range nevers() {
			if !moment.Same(a, b) || moment.Less(a, b) {
				t.Errorf("%#x and %#x", math.Float64bits(a), math.Float64bits(b))
			}
		}
		if moment.Less(a, math.Inf(1)) || !moment.Less(math.Inf(1), a) || moment.Same(a, math.Inf(1)) || moment.Same(math.Inf(-1), a) {
			t.Errorf("%#x", math.Float64bits(a))
		}
	}
}

// P2.3
func TestSort(t *testing.T) {
	nan := nevers()
	for _, c := range []struct {
		l    []float64
		want []int
	}{
		{nil, nil},
		{[]float64{}, nil},
		{[]float64{math.NaN()}, []int{0}},
		{[]float64{moment.Never(), 2, moment.First()}, []int{2, 1, 0}},
		{[]float64{0, low, 0, low}, []int{1, 3, 0, 2}},
		{[]float64{nan[3], 1, nan[0], 1, nan[6], math.Inf(1), nan[1]}, []int{1, 3, 5, 0, 2, 4, 6}},
		{[]float64{3, 2, 1, 0, low, -1, math.Inf(-1)}, []int{6, 5, 4, 3, 2, 1, 0}},
		{[]float64{7, 7, 7}, []int{0, 1, 2}},
	} {
		if got := moment.Sort(c.l); !slices.Equal(got, c.want) {
			t.Errorf("Sort(%v): %v, not %v", c.l, got, c.want)
		}
	}
}

// P2.3: of lists that are long, where what is the same must still stand as it stood.
func TestSortLong(t *testing.T) {
	for _, n := range []int{2, 11, 12, 13, 20, 21, 64, 1000, 5000} {
		l := mixed(n)
		got := moment.Sort(l)
		seen := make([]bool, n)
		for k, p := range got {
			if p < 0 || p >= n || seen[p] {
				t.Fatalf("of %d: place %d comes twice or isn't there", n, p)
			}
			seen[p] = true
			if k == 0 {
				continue
			}
			o := got[k-1]
			if rank(l[o]) > rank(l[p]) || rank(l[o]) == rank(l[p]) && o > p {
				t.Fatalf("of %d: place %d (%v) ahead of place %d (%v)", n, o, l[o], p, l[p])
			}
		}
		if len(got) != n {
			t.Fatalf("of %d: %d places", n, len(got))
		}
	}
}

// P2.3 and rule 4: what is handed in stays, its spare room too, and an answer is new memory.
func TestSortLeavesItsList(t *testing.T) {
	all := []float64{3, math.Inf(1), low, 1, 9, 8}
	first := moment.Sort(all[:4])
	for k := range first[:cap(first)] {
		first[:cap(first)][k] = -7
	}
	if got := moment.Sort(all[:4]); !slices.Equal(got, []int{2, 3, 0, 1}) {
		t.Error(got)
	}
	moment.Last(all[:2]...)
	if !slices.Equal(all, []float64{3, math.Inf(1), low, 1, 9, 8}) || !math.Signbit(all[2]) {
		t.Error(all)
	}
}

// P2.3
func TestLast(t *testing.T) {
	for _, c := range []struct {
		l    []float64
		want float64
	}{
		{nil, math.Inf(-1)},
		{[]float64{}, math.Inf(-1)},
		{[]float64{math.Inf(-1)}, math.Inf(-1)},
		{[]float64{-math.MaxFloat64}, -math.MaxFloat64},
		{[]float64{low}, low},
		{[]float64{0, low}, 0},
		{[]float64{low, 0}, 0},
		{[]float64{low, low, -1}, low},
		{[]float64{1, 3, 2}, 3},
		{[]float64{3, 2, 1}, 3},
		{[]float64{1, 2, 3}, 3},
		{[]float64{1, math.Inf(1), 2}, math.Inf(1)},
		{[]float64{1, math.NaN(), math.Inf(1)}, math.NaN()},
		{[]float64{math.NaN(), 1}, math.NaN()},
		{[]float64{math.Inf(1), 1, math.NaN()}, math.NaN()},
	} {
		if got := moment.Last(c.l...); rank(got) != rank(c.want) {
			t.Errorf("Last(%v): %v, not %v", c.l, got, c.want)
		}
	}
	for _, m := range nevers() {
		if got := moment.Last(5, m, 6); !math.IsNaN(got) {
			t.Errorf("with %#x: %v", math.Float64bits(m), got)
		}
	}
	for n := range 60 {
		l := mixed(n)
		want := math.Inf(-1)
		for _, m := range l {
			if rank(m) > rank(want) {
				want = m
			}
		}
		if got := moment.Last(l...); rank(got) != rank(want) {
			t.Errorf("Last(%v): %v", l, got)
		}
	}
}

// P2.4
func TestOneAheadOrTheSame(t *testing.T) {
	l := samples()
	for _, a := range l {
		for _, b := range l {
			n := 0
			for _, holds := range []bool{moment.Less(a, b), moment.Less(b, a), moment.Same(a, b)} {
				if holds {
					n++
				}
			}
			if n != 1 || moment.Same(a, b) != moment.Same(b, a) {
				t.Errorf("%v and %v", a, b)
			}
			for _, c := range l {
				if moment.Less(a, b) && moment.Less(b, c) && !moment.Less(a, c) {
					t.Errorf("%v, %v and %v", a, b, c)
				}
				if moment.Same(a, b) && (moment.Less(a, c) != moment.Less(b, c) || moment.Less(c, a) != moment.Less(c, b) || moment.Same(a, c) != moment.Same(b, c)) {
					t.Errorf("%v and %v aren't the same beside %v", a, b, c)
				}
			}
		}
	}
}

// P2.5
func TestSteps(t *testing.T) {
	steps := []int{0, 1, 2, 3, 99, 100, 1 << 31, 1<<52 - 1, 1 << 52, 1<<52 + 1, limit - 2, limit - 1, limit}
	for _, i := range steps {
		a, _ := moment.Of(i)
		for _, k := range steps {
			b, _ := moment.Of(k)
			if moment.Less(a, b) != (i < k) || moment.Same(a, b) != (i == k) {
				t.Errorf("steps %d and %d", i, k)
			}
		}
		if !moment.Less(moment.First(), a) || !moment.Less(a, moment.Later()) || moment.Less(a, moment.First()) || moment.Less(moment.Later(), a) {
			t.Errorf("step %d", i)
		}
	}
	for _, m := range samples() {
		if moment.Less(moment.Never(), m) {
			t.Errorf("%v is behind Never", m)
		}
		if !math.IsNaN(m) && !moment.Less(m, moment.Never()) {
			t.Errorf("%v isn't ahead of Never", m)
		}
	}
}
