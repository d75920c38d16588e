package choose_test

import (
	"math"
	"math/big"
	"slices"
	"testing"

	"undertow/api"
	"undertow/choose"
)

// limit is of how many things a number may choose, round how many picks there are of one unit each.
const (
	limit = 1 << 20
	round = api.Harts * api.Units
)

var low = math.Copysign(0, -1)

// nevers are NaNs of different bits: quiet and signalling ones, of both signs.
func nevers() []float64 {
	var l []float64
	for _, bits := range []uint64{0x7ff8_0000_0000_0000, 0x7ff8_0000_0000_0001, 0x7ff0_0000_0000_0001, 0x7fff_ffff_ffff_ffff, 0xfff8_0000_0000_0000, 0xfff0_0000_0000_0001, math.MaxUint64} {
		l = append(l, math.Float64frombits(bits))
	}
	return l
}

// sizes are positive finite numbers: fractions, whole ones, those at the edges of ints and those beyond every int.
func sizes() []float64 {
	l := []float64{
		math.SmallestNonzeroFloat64, 0x1p-1022, 1e-9, 0.25, 0.5, 0.99, math.Nextafter(1, 0), 1, math.Nextafter(1, 2), 1.5, math.Nextafter(2, 0), 2, 2.75, 3, 4.9, 5, 6.5, 7, 11, 99.99, 1000, 65535.5,
		limit - 2, limit - 1, limit - 0.5, limit, limit + 0.5, limit + 1, 2*limit - 1, 3*limit + 2,
		1<<31 - 1, 1 << 31, 1<<32 - 0.5, 1<<32 + 1, 1<<52 - 0.5, 1<<53 - 1, 1 << 53, 1<<53 + 2, 1 << 60, 1 << 62, math.Nextafter(1<<63, 0), 1 << 63, math.Nextafter(1<<63, math.Inf(1)), math.Nextafter(1<<64, 0), 1 << 64, math.Nextafter(1<<64, math.Inf(1)),
		1e19, 1e25, 3e100, 1e300, math.Nextafter(math.MaxFloat64, 0), math.MaxFloat64,
	}
	x := uint64(1)
	for range 200 {
		x = x*6364136223846793005 + 1442695040888963407
		if at := math.Float64frombits(x >> 1); at < math.Inf(1) && at > 0 {
			l = append(l, at)
		}
		l = append(l, float64(x>>33)/64)
	}
	return l
}

// numbers are all numbers but NaNs: of both signs, the noughts and infinities too.
func numbers() []float64 {
	l := []float64{0, low, math.Inf(1), math.Inf(-1)}
	for _, at := range sizes() {
		l = append(l, at, -at)
	}
	return l
}

// counts are of how many things a number may choose, the ends of these among them.
func counts() []int {
	return []int{1, 2, 3, 4, 5, 6, 7, 8, 10, 13, 64, 100, 1000, 4096, 65535, 65537, 524287, limit - 3, limit - 2, limit - 1, limit}
}

// notCounts are of how many things no number may choose.
func notCounts() []int {
	return []int{0, -1, -2, -3, -limit, math.MinInt, math.MinInt + 1, math.MinInt32, limit + 1, limit + 2, 2 * limit, 1 << 32, 1<<32 + 1, math.MaxInt - 1, math.MaxInt}
}

// remainder is of a finite number's size the whole part mod n, by whole numbers of any size.
func remainder(n int, at float64) int {
	w, _ := new(big.Float).SetFloat64(math.Abs(at)).Int(nil)
	return int(w.Mod(w, big.NewInt(int64(n))).Int64())
}

// chosen is which of n things a number that is no NaN chooses.
func chosen(n int, at float64) int {
	switch {
	case math.IsInf(at, -1):
		return 0
	case math.IsInf(at, 1):
		return n - 1
	case math.Float64bits(at)>>63 == 1:
		return n - 1 - remainder(n, at)
	}
	return remainder(n, at)
}

// fullRound are picks of each unit of each core, of the numbers that are handed in, in turn.
func fullRound(at ...float64) []api.Pick {
	var l []api.Pick
	for core := range api.Harts {
		for unit := range api.Units {
			l = append(l, api.Pick{Core: core, Unit: unit, At: at[len(l)%len(at)]})
		}
	}
	return l
}

// rounds are n full rounds of the oldest's numbers, one behind the other.
func rounds(n int) []api.Pick {
	var l []api.Pick
	for range n {
		l = append(l, fullRound(0, 0.5, math.Inf(-1))...)
	}
	return l
}

// P3.1: as it is written down.
func TestOfWrittenDown(t *testing.T) {
	for _, c := range []struct {
		n    int
		at   float64
		want int
	}{
		{3, 4.9, 1}, {3, -4.9, 1}, {5, low, 4}, {5, 0, 0},
		{3, 0.5, 0}, {3, -0.5, 2}, {3, 1, 1}, {3, -1, 1}, {3, 2, 2}, {3, -2, 0}, {3, 3, 0}, {3, -3, 2}, {3, 2.999, 2}, {3, -2.999, 0}, {3, 3.001, 0}, {3, -3.001, 2},
		{7, math.Inf(-1), 0}, {7, math.Inf(1), 6}, {7, math.SmallestNonzeroFloat64, 0}, {7, -math.SmallestNonzeroFloat64, 6},
		{10, 1e19, 0}, {10, -1e19, 9}, {10, 1 << 63, 8}, {10, -(1 << 63), 1}, {10, 1 << 64, 6}, {10, -(1 << 64), 3}, {7, 1 << 60, 1}, {7, -(1 << 60), 5},
		{3, 0x1p1023, 2}, {3, -0x1p1023, 0}, {3, 0x1p1022, 1}, {3, -0x1p1022, 1}, {5, math.MaxFloat64, 3}, {5, -math.MaxFloat64, 1},
		{1, 0, 0}, {1, low, 0}, {1, 1e300, 0}, {1, -77.5, 0}, {1, math.Inf(1), 0}, {1, math.Inf(-1), 0},
		{limit, 0, 0}, {limit, low, limit - 1}, {limit, limit - 0.5, limit - 1}, {limit, limit, 0}, {limit, -limit, limit - 1}, {limit, -limit + 1, 0}, {limit, math.Inf(1), limit - 1}, {limit, math.Inf(-1), 0},
		{limit - 1, limit - 1, 0}, {limit - 1, limit, 1}, {limit - 1, -limit, limit - 3},
	} {
		if k, ok := choose.Of(c.n, c.at); k != c.want || !ok {
			t.Errorf("Of(%d, %v): %d %v, not %d", c.n, c.at, k, ok, c.want)
		}
	}
}

// P3.1
func TestOf(t *testing.T) {
	for _, n := range counts() {
		for _, at := range numbers() {
			if k, ok := choose.Of(n, at); !ok || k != chosen(n, at) {
				t.Errorf("Of(%d, %v): %d %v, not %d", n, at, k, ok, chosen(n, at))
			}
		}
	}
}

// P3.1: of few things by each of many whole numbers, and by those between.
func TestOfInTurn(t *testing.T) {
	for n := 1; n <= 40; n++ {
		next := 0
		for w := range 200 {
			for _, part := range []float64{0, 0.001, 0.5, 0.999} {
				at := float64(w) + part
				if k, ok := choose.Of(n, at); !ok || k != next {
					t.Errorf("Of(%d, %v): %d %v, not %d", n, at, k, ok, next)
				}
				if k, ok := choose.Of(n, -at); !ok || k != n-1-next {
					t.Errorf("Of(%d, %v): %d %v, not %d", n, -at, k, ok, n-1-next)
				}
			}
			next++
			if next == n {
				next = 0
			}
		}
	}
}

// P3.1: nothing is chosen by a NaN, and of no number of things that may not be.
func TestOfNone(t *testing.T) {
	for _, at := range nevers() {
		for _, n := range append(counts(), notCounts()...) {
			if k, ok := choose.Of(n, at); k != 0 || ok {
				t.Errorf("Of(%d, NaN): %d %v", n, k, ok)
			}
		}
	}
	for _, n := range notCounts() {
		for _, at := range numbers() {
			if k, ok := choose.Of(n, at); k != 0 || ok {
				t.Errorf("Of(%d, %v): %d %v", n, at, k, ok)
			}
		}
	}
}

// P3.2
func TestOldest(t *testing.T) {
	for _, at := range []float64{math.Inf(-1), 0, math.SmallestNonzeroFloat64, 0x1p-1022, 1e-300, 0.1, 0.5, 0.99, math.Nextafter(1, 0)} {
		if !choose.Oldest(at) {
			t.Errorf("%v isn't the oldest's", at)
		}
	}
	others := append(nevers(), low, math.Inf(1), -math.SmallestNonzeroFloat64, -0x1p-1022, -0.5, -math.Nextafter(1, 0), -1, -1.5, -2, -limit, -1e300, -math.MaxFloat64,
		1, math.Nextafter(1, 2), 1.5, 2, limit, 1<<53, 1<<63, 0x1p1023, math.MaxFloat64)
	for _, at := range others {
		if choose.Oldest(at) {
			t.Errorf("%v is the oldest's", at)
		}
	}
}

// P3.2: a number is the oldest's if, and only if, it chooses the first one of however many.
func TestOldestChoosesTheFirst(t *testing.T) {
	for _, at := range append(numbers(), nevers()...) {
		always := true
		for _, n := range counts() {
			k, ok := choose.Of(n, at)
			always = always && ok && k == 0
		}
		if choose.Oldest(at) != always {
			t.Errorf("%v: %v", at, !always)
		}
	}
}

// P3.2
func TestRight(t *testing.T) {
	for core := -3; core <= 6; core++ {
		for unit := -3; unit <= 9; unit++ {
			want := slices.Contains([]int{0, 1, 2}, core) && slices.Contains([]int{0, 1, 2, 3, 4, 5}, unit)
			for _, at := range []float64{0, low, -7.5, math.Inf(1), math.Inf(-1), math.NaN()} { // whatever its number is
				if choose.Right(api.Pick{Core: core, Unit: unit, At: at}) != want {
					t.Errorf("core %d, unit %d, %v: %v", core, unit, at, !want)
				}
			}
		}
	}
	for _, far := range []int{math.MinInt, math.MinInt + 1, math.MinInt32, -1, 6, 1 << 32, 1<<32 + 1, math.MaxInt} {
		if choose.Right(api.Pick{Core: far}) || choose.Right(api.Pick{Unit: far}) || choose.Right(api.Pick{Core: far, Unit: far}) {
			t.Errorf("%d", far)
		}
	}
}

// P3.3
func TestWindows(t *testing.T) {
	for _, c := range []struct{ n, w, want int }{
		{0, 1, 0}, {0, 0, 0}, {0, 18, 0}, {1, 1, 1}, {1, 2, 0}, {5, 1, 5}, {17, 18, 0}, {18, 18, 1}, {19, 18, 1}, {35, 18, 1}, {36, 18, 2}, {36, 17, 2}, {36, 5, 7}, {36, 36, 1}, {36, 37, 0}, {37, 18, 2},
		{36, math.MaxInt, 0}, {36, math.MaxInt - 1, 0}, {36, 1 << 32, 0}, {36, 0, 0}, {36, -1, 0}, {36, -18, 0}, {36, math.MinInt, 0}, {36, math.MinInt + 1, 0},
	} {
		if got := choose.Windows(make([]api.Pick, c.n), c.w); got != c.want {
			t.Errorf("%d picks, runs of %d: %d, not %d", c.n, c.w, got, c.want)
		}
	}
	if choose.Windows(nil, 1) != 0 {
		t.Error("nil")
	}
}

// P3.3: runs are counted whatever their picks are.
func TestWindowsOfWrongPicks(t *testing.T) {
	l := []api.Pick{{Core: -1}, {Unit: 6}, {At: math.NaN()}, {Core: math.MaxInt, Unit: math.MinInt}, {At: 1}}
	if got := choose.Windows(l, 2); got != 2 {
		t.Error(got)
	}
}

// P3.3
func TestFair(t *testing.T) {
	for _, c := range []struct {
		name string
		l    []api.Pick
		w    int
		want bool
	}{
		{"one round", rounds(1), round, true},
		{"three rounds", rounds(3), round, true},
		{"three rounds as one", rounds(3), 3 * round, true},
		{"runs a little longer than a round", rounds(9), round + 2, true},
		{"a run too short", rounds(2), round - 1, false},
		{"a run too short that is the only one", rounds(1), round - 1, false},
		{"runs of one", rounds(2), 1, false},
		{"nothing", nil, 1, true},
		{"nothing, long runs", nil, math.MaxInt, true},
		{"empty", []api.Pick{}, 18, true},
		{"no whole run", rounds(2)[:35], 36, true},
		{"no whole run, of one unit alone", make([]api.Pick, 17), 18, true},
		{"one unit alone", make([]api.Pick, 18), 18, false},
		{"no whole run at all", rounds(2), math.MaxInt, true},
		{"one whole run, and a piece that lacks units", rounds(2)[:35], round, true},
		{"backwards", backwards(rounds(2)), round, true},
		{"runs of none", rounds(2), 0, false},
		{"runs of none of nothing", nil, 0, false},
		{"runs of less than none", rounds(2), -1, false},
		{"runs of less than none, a round", rounds(2), -round, false},
		{"runs of least", rounds(2), math.MinInt, false},
		{"runs of least of nothing", nil, math.MinInt, false},
		{"a hole in the second run", slices.Concat(rounds(1), rounds(1)[1:], rounds(1)[2:3], rounds(1)), round, false},
		{"twice what the other run lacks", slices.Concat(rounds(1)[:9], rounds(1)[:9], rounds(1)[9:], rounds(1)[9:]), round, false},
		{"the same as one run", slices.Concat(rounds(1)[:9], rounds(1)[:9], rounds(1)[9:], rounds(1)[9:]), 2 * round, true},
		{"runs that begin with the first pick", slices.Concat(rounds(1)[:1], rounds(2)), round, false},
		{"a piece at the end", slices.Concat(rounds(2), rounds(1)[:1]), round, true},
		{"one behind the other, what lies across them lacking units", slices.Concat(rounds(1), backwards(rounds(1))), round, true},
	} {
		if got := choose.Fair(c.l, c.w); got != c.want {
			t.Errorf("%s: %v", c.name, got)
		}
	}
}

// backwards are picks, the last one first.
func backwards(l []api.Pick) []api.Pick {
	slices.Reverse(l)
	return l
}

// P3.3: each unit of each core is asked for, in each whole run.
func TestFairOneLeftOut(t *testing.T) {
	for left := range 3 * round {
		for _, with := range []api.Pick{{}, {Core: 2, Unit: 5}} {
			l := rounds(3)
			same := l[left].Core == with.Core && l[left].Unit == with.Unit
			l[left] = with
			if choose.Fair(l, round) != same {
				t.Errorf("pick %d as %v: %v", left, with, !same)
			}
			if !choose.Fair(l[:left/round*round+round-1], round) { // the run that lacks it isn't whole
				t.Errorf("pick %d as %v, cut", left, with)
			}
			if !choose.Fair(l, 3*round) { // another one of it is in the run
				t.Errorf("pick %d as %v, one run", left, with)
			}
		}
	}
}

// P3.3: a unit's pick counts only if its number is the oldest's.
func TestFairByTheOldest(t *testing.T) {
	for _, at := range append(numbers(), nevers()...) {
		for k := range round {
			l := rounds(1)
			l[k].At = at
			if choose.Fair(l, round) != choose.Oldest(at) {
				t.Errorf("pick %d of %v: %v", k, at, !choose.Oldest(at))
			}
		}
		if choose.Fair(fullRound(at), round) != choose.Oldest(at) {
			t.Errorf("all of %v: %v", at, !choose.Oldest(at))
		}
	}
}

// P3.3: other picks of a unit neither help nor hurt, wherever they stand.
func TestFairAmongOthers(t *testing.T) {
	for _, at := range []float64{1, -0.5, low, math.Inf(1), math.NaN()} {
		others, oldest := fullRound(at), rounds(1)
		for _, l := range [][]api.Pick{slices.Concat(others, oldest), slices.Concat(oldest, others), slices.Concat(others[:7], oldest, others[7:])} {
			if !choose.Fair(l, 2*round) {
				t.Errorf("%v beside", at)
			}
			if choose.Fair(l, round) {
				t.Errorf("%v in a run of their own", at)
			}
		}
	}
}

// P3.3: picks that aren't right are of no unit, and do no harm.
func TestFairWrongPicks(t *testing.T) {
	wrong := []api.Pick{{Core: -1}, {Core: 3}, {Unit: -1}, {Unit: 6}, {Core: 1, Unit: 6}, {Core: 2, Unit: -6}, {Core: math.MinInt, Unit: math.MaxInt}, {Core: math.MaxInt, Unit: math.MinInt}, {Core: 1 << 32, Unit: 1 << 32}}
	if !choose.Fair(slices.Concat(wrong, rounds(1)), round+len(wrong)) || !choose.Fair(slices.Concat(rounds(1), wrong), round+len(wrong)) {
		t.Error("beside a round")
	}
	for k := range round {
		for _, p := range wrong {
			l := rounds(1)
			l[k] = p
			if choose.Fair(l, round) {
				t.Errorf("pick %d as %v", k, p)
			}
		}
	}
}

// P3.3 and rule 4: what is handed in stays, its spare room too.
func TestPicksStay(t *testing.T) {
	all := slices.Concat(rounds(2), []api.Pick{{Core: 9, Unit: 9, At: 9}})
	was := slices.Clone(all)
	choose.Fair(all[:round], round)
	choose.Fair(all[:round], round+1)
	choose.Windows(all[:round], round)
	if !slices.Equal(all, was) {
		t.Error(all)
	}
}

// P3.4
func TestOneOfThem(t *testing.T) {
	for n := 1; n <= 300; n++ {
		for _, at := range numbers() {
			if k, ok := choose.Of(n, at); !ok || k < 0 || k >= n {
				t.Errorf("Of(%d, %v): %d %v", n, at, k, ok)
			}
		}
	}
	for _, at := range numbers() {
		if k, ok := choose.Of(1, at); k != 0 || !ok {
			t.Errorf("Of(1, %v): %d %v", at, k, ok)
		}
		if k, ok := choose.Of(limit, at); !ok || k < 0 || k >= limit {
			t.Errorf("Of(2^20, %v): %d %v", at, k, ok)
		}
	}
}

// P3.4
func TestOldestIsFirst(t *testing.T) {
	for _, at := range append(numbers(), nevers()...) {
		for _, n := range counts() {
			if k, ok := choose.Of(n, at); choose.Oldest(at) && (k != 0 || !ok) {
				t.Errorf("Of(%d, %v): %d %v", n, at, k, ok)
			}
		}
	}
}

// P3.4
func TestTurnedAbout(t *testing.T) {
	for _, n := range counts() {
		for _, at := range numbers() {
			k, ok := choose.Of(n, at)
			back, too := choose.Of(n, -at)
			if !ok || !too || k+back != n-1 {
				t.Errorf("of %d, %v and %v: %d and %d", n, at, -at, k, back)
			}
		}
	}
}
