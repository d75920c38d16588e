package names_test

import (
	"math"
	"testing"

	"undertow/names"
)

// numbers are those that registers have at first, register 0 too, so that it shows that its own isn't taken.
func numbers() [32]uint64 {
	var x [32]uint64
	for r := range x {
		x[r] = 1000 + uint64(r)
	}
	return x
}

// settled are the numbers that registers have behind New, with others at some of them.
func settled(at map[int]uint64) [32]uint64 {
	x := numbers()
	x[0] = 0
	for r, v := range at {
		x[r] = v
	}
	return x
}

// noRegisters are numbers of no register, noCells of no cell; some have the low bits of one.
func noRegisters() []int { return append(outside(), -1, -31, -32, 32, 33, 43, 44) }
func noCells() []int     { return append(outside(), -1, -32, -43, -44, 44, 45) }

func outside() []int {
	l := []int{math.MaxInt, math.MinInt, math.MaxInt - 1, math.MinInt + 1, math.MinInt + 5}
	for k := 6; k < 63; k++ {
		l = append(l, 1<<k, 1<<k|5, 1<<k|32, -1<<k, -1<<k|5, -1<<k|32)
	}
	return l
}

// A picture is all that names tell at a time.
type picture struct {
	look   [34]int
	value  [46]uint64
	ready  [46]bool
	claims int
	values [32]uint64
}

func taken(n *names.Names) picture {
	p := picture{claims: n.Claims(), values: n.Values()}
	for k := range p.look {
		p.look[k] = n.Look(k - 1)
	}
	for k := range p.value {
		p.value[k], p.ready[k] = n.Value(k - 1)
	}
	return p
}

// stays holds that something that is done answers false, and that nothing is done.
func stays(t *testing.T, n *names.Names, what string, at int, do func() bool) {
	t.Helper()
	before := taken(n)
	if do() {
		t.Errorf("%s %d: true", what, at)
	}
	if now := taken(n); now != before {
		t.Errorf("%s %d: %+v, not %+v", what, at, now, before)
	}
}

// claim holds that registers are given those cells, which aren't ready.
func claim(t *testing.T, n *names.Names, r int, cells ...int) {
	t.Helper()
	for _, want := range cells {
		if c, ok := n.Claim(r); c != want || !ok {
			t.Errorf("Claim(%d): %d %v, not %d", r, c, ok, want)
		}
		look(t, n, r, want)
		unready(t, n, want)
	}
}

// refused holds that registers are given no cell.
func refused(t *testing.T, n *names.Names, registers ...int) {
	t.Helper()
	for _, r := range registers {
		stays(t, n, "Claim", r, func() bool {
			c, ok := n.Claim(r)
			return ok || c != 0
		})
	}
}

// set holds that a cell of a claim is given a value.
func set(t *testing.T, n *names.Names, c int, v uint64) {
	t.Helper()
	if !n.Set(c, v) {
		t.Errorf("Set(%d): false", c)
	}
	value(t, n, c, v)
}

// unset holds that cells aren't given a value.
func unset(t *testing.T, n *names.Names, cells ...int) {
	t.Helper()
	for _, c := range cells {
		stays(t, n, "Set", c, func() bool { return n.Set(c, 77) })
	}
}

// repeats holds that something is done some times, one by one, and how many claims there are behind it.
func repeats(t *testing.T, n *names.Names, what string, do func() bool, some, claims int) {
	t.Helper()
	for range some {
		if !do() {
			t.Errorf("%s: false", what)
		}
	}
	many(t, n, claims)
}

func retire(t *testing.T, n *names.Names, some, claims int) {
	t.Helper()
	repeats(t, n, "Retire", n.Retire, some, claims)
}

func undo(t *testing.T, n *names.Names, some, claims int) {
	t.Helper()
	repeats(t, n, "Undo", n.Undo, some, claims)
}

// look holds a register's cell against what is wanted.
func look(t *testing.T, n *names.Names, r, want int) {
	t.Helper()
	if c := n.Look(r); c != want {
		t.Errorf("Look(%d): %d, not %d", r, c, want)
	}
}

// value holds what a cell has, which is ready, against what is wanted.
func value(t *testing.T, n *names.Names, c int, want uint64) {
	t.Helper()
	if v, ok := n.Value(c); v != want || !ok {
		t.Errorf("Value(%d): %d %v, not %d", c, v, ok, want)
	}
}

// unready holds that cells have nothing.
func unready(t *testing.T, n *names.Names, cells ...int) {
	t.Helper()
	for _, c := range cells {
		if v, ok := n.Value(c); v != 0 || ok {
			t.Errorf("Value(%d): %d %v", c, v, ok)
		}
	}
}

// many holds how many claims there are, values what registers have settled.
func many(t *testing.T, n *names.Names, want int) {
	t.Helper()
	if k := n.Claims(); k != want {
		t.Errorf("Claims: %d, not %d", k, want)
	}
}

func values(t *testing.T, n *names.Names, want [32]uint64) {
	t.Helper()
	if x := n.Values(); x != want {
		t.Errorf("Values: %d, not %d", x, want)
	}
}

// The chapter's example.
func TestExample(t *testing.T) {
	n := names.New(numbers())
	claim(t, n, 5, 32)
	look(t, n, 5, 32)
	claim(t, n, 5, 33)
	undo(t, n, 1, 1)
	look(t, n, 5, 32)
	set(t, n, 32, 7)
	retire(t, n, 1, 0)
	values(t, n, settled(map[int]uint64{5: 7}))
	claim(t, n, 6, 5)
	if names.Cells != 44 {
		t.Error(names.Cells)
	}
}

// P15.1: new ones have each register at its own number's cell, ready, register 0 with nought, and no other one.
func TestNew(t *testing.T) {
	for _, zero := range []uint64{0, 3, 1 << 63, math.MaxUint64} {
		x := numbers()
		x[0], x[9], x[31] = zero, 0, math.MaxUint64
		n := names.New(x)
		for r := range 32 {
			look(t, n, r, r)
		}
		for c := 1; c < 32; c++ {
			value(t, n, c, x[c])
		}
		value(t, n, 0, 0)
		for c := 32; c < 44; c++ {
			unready(t, n, c)
		}
		many(t, n, 0)
		values(t, n, settled(map[int]uint64{9: 0, 31: math.MaxUint64}))
	}
}

// P15.1: each register at the edges, and such as are none, of which none has a cell, claimed or not.
func TestLook(t *testing.T) {
	n := names.New(numbers())
	for _, c := range []struct{ r, want int }{{-1, 0}, {0, 0}, {1, 1}, {31, 31}, {32, 0}} {
		look(t, n, c.r, c.want)
	}
	claim(t, n, 1, 32)
	claim(t, n, 31, 33)
	for _, c := range []struct{ r, want int }{{-1, 0}, {0, 0}, {1, 32}, {2, 2}, {30, 30}, {31, 33}, {32, 0}} {
		look(t, n, c.r, c.want)
	}
	for _, r := range noRegisters() {
		look(t, n, r, 0)
	}
}

// P15.1: each cell at the edges: settled ones, claimed ones, ready or not, free ones, and such as are none.
func TestValue(t *testing.T) {
	n := names.New(numbers())
	value(t, n, 0, 0)
	value(t, n, 31, 1031)
	unready(t, n, -1, 32, 43, 44)
	for k := range 12 {
		claim(t, n, 31, 32+k)
	}
	value(t, n, 31, 1031)
	unready(t, n, -1, 32, 43, 44)
	set(t, n, 43, 5)
	unready(t, n, 32, 42, 44)
	set(t, n, 32, 0) // a nought is ready, too
	value(t, n, 43, 5)
	for _, c := range noCells() {
		unready(t, n, c)
	}
}

// P15.1: what becomes free again has no value, whether a claim was undone, ready or not, or another one is settled.
func TestFreed(t *testing.T) {
	n := names.New(numbers())
	claim(t, n, 5, 32, 33, 34)
	set(t, n, 34, 9)
	undo(t, n, 2, 1)
	unready(t, n, 33, 34)
	value(t, n, 5, 1005) // not settled yet, so its old one stays
	set(t, n, 32, 8)
	value(t, n, 5, 1005)
	retire(t, n, 1, 0)
	unready(t, n, 5)
	value(t, n, 32, 8)
	claim(t, n, 5, 5)
	set(t, n, 5, 10)
	retire(t, n, 1, 0)
	unready(t, n, 32)
	value(t, n, 5, 10)
	look(t, n, 5, 5)
}

// P15.2: each register at the edges, and such as are none, which are given nothing.
func TestClaim(t *testing.T) {
	n := names.New(numbers())
	refused(t, n, -1, 0, 32)
	claim(t, n, 1, 32)
	claim(t, n, 31, 33)
	refused(t, n, -1, 0, 32)
	refused(t, n, noRegisters()...)
	many(t, n, 2)
	for r := 1; r < 32; r++ { // each register may
		m := names.New(numbers())
		claim(t, m, r, 32)
		for other := range 32 {
			if other != r {
				look(t, m, other, other)
			}
		}
		values(t, m, settled(nil))
	}
}

// full are names of which no cell is free, of twelve claims of as many registers, from 1 on.
func full(t *testing.T) *names.Names {
	t.Helper()
	n := names.New(numbers())
	for k := range 12 {
		many(t, n, k)
		claim(t, n, 1+k, 32+k)
	}
	many(t, n, 12)
	return n
}

// P15.2, P15.4: twelve claims have a cell each; behind them none is free, till one is retired or undone.
func TestFull(t *testing.T) {
	n := full(t)
	all := []int{0, -1, 32}
	for r := 1; r < 32; r++ {
		all = append(all, r)
	}
	refused(t, n, all...)
	undo(t, n, 1, 11)
	look(t, n, 12, 12)
	claim(t, n, 20, 43)
	refused(t, n, 1, 20)
	set(t, n, 32, 6)
	refused(t, n, 1, 20) // that one is ready frees nothing
	retire(t, n, 1, 11)
	claim(t, n, 20, 1) // register 1's old one
	refused(t, n, 1, 20)
	undo(t, n, 12, 0)
	values(t, n, settled(map[int]uint64{1: 6}))
	for _, c := range []int{1, 33, 34, 35, 36, 37, 38, 39, 40, 41, 42, 43} {
		claim(t, n, 2, c)
	}
	refused(t, n, 2)
}

// P15.2: the least cell that is free is given, whichever became so, in whatever order.
func TestLeast(t *testing.T) {
	n := full(t)
	for c := 32; c < 44; c++ {
		set(t, n, c, uint64(c))
	}
	retire(t, n, 12, 0) // the cells 1 to 12 are free
	claim(t, n, 31, 1, 2)
	claim(t, n, 1, 3)
	set(t, n, 1, 100)
	set(t, n, 2, 101)
	retire(t, n, 2, 1) // 31 and 1 are free, too
	claim(t, n, 7, 1, 4, 5, 6, 7, 8, 9, 10, 11, 12, 31)
	refused(t, n, 7)
	undo(t, n, 4, 8)
	set(t, n, 3, 102)
	retire(t, n, 1, 7)
	claim(t, n, 8, 10, 11, 12, 31, 32)
	refused(t, n, 8)
	value(t, n, 3, 102)
	look(t, n, 1, 3)
}

// P15.1, P15.3: of one register that is claimed several times the last one's cell is its; each that is undone gives way to the one ahead of it.
func TestUndoneOneByOne(t *testing.T) {
	n := names.New(numbers())
	claim(t, n, 5, 32, 33)
	claim(t, n, 6, 34)
	claim(t, n, 5, 35)
	for _, c := range []struct{ five, six, claims int }{{33, 34, 3}, {33, 6, 2}, {32, 6, 1}, {5, 6, 0}} {
		undo(t, n, 1, c.claims)
		look(t, n, 5, c.five)
		look(t, n, 6, c.six)
		values(t, n, settled(nil))
	}
	stays(t, n, "Undo", 0, n.Undo)
}

// P15.1, P15.3: of one register that is claimed several times the first one is retired; its last one stays its cell.
func TestRetiredOneByOne(t *testing.T) {
	n := names.New(numbers())
	claim(t, n, 5, 32, 33)
	claim(t, n, 6, 34)
	claim(t, n, 5, 35)
	for _, c := range []int{35, 34, 33, 32} {
		set(t, n, c, uint64(c))
		values(t, n, settled(nil))
	}
	for k, c := range []struct{ five, six uint64 }{{32, 1006}, {33, 1006}, {33, 34}, {35, 34}} {
		retire(t, n, 1, 3-k)
		values(t, n, settled(map[int]uint64{5: c.five, 6: c.six}))
		look(t, n, 5, 35)
		look(t, n, 6, 34)
	}
	unready(t, n, 5, 6, 32, 33)
	stays(t, n, "Retire", 0, n.Retire)
	claim(t, n, 9, 5, 6, 32, 33, 36)
}

// P15.3: a claim's cell is set once, and once more; no other one is.
func TestSet(t *testing.T) {
	n := names.New(numbers())
	unset(t, n, 0, 1, 5, 31, 32, 43)
	claim(t, n, 5, 32, 33)
	unset(t, n, 0, 5, 31, 34, 43)
	unset(t, n, noCells()...)
	set(t, n, 33, 6)
	unready(t, n, 32)
	for _, v := range []uint64{7, 8, 0, math.MaxUint64, 9} {
		set(t, n, 33, v)
		set(t, n, 32, v+1)
		value(t, n, 33, v)
	}
	values(t, n, settled(nil))
	retire(t, n, 1, 1)
	unset(t, n, 5, 32) // the one is free, the other one is settled
	set(t, n, 33, 11)
	values(t, n, settled(map[int]uint64{5: 10}))
	undo(t, n, 1, 0)
	unset(t, n, 5, 32, 33)
}

// P15.3: what is settled has the value that was set last.
func TestSetTwiceAndRetired(t *testing.T) {
	n := names.New(numbers())
	claim(t, n, 5, 32)
	set(t, n, 32, 7)
	set(t, n, 32, 8)
	retire(t, n, 1, 0)
	values(t, n, settled(map[int]uint64{5: 8}))
}

// P15.3: only the first claim is retired, and only if it is ready; none, if there is none.
func TestRetire(t *testing.T) {
	n := names.New(numbers())
	stays(t, n, "Retire", 0, n.Retire)
	claim(t, n, 5, 32)
	stays(t, n, "Retire", 1, n.Retire)
	claim(t, n, 6, 33)
	set(t, n, 33, 8)
	stays(t, n, "Retire", 2, n.Retire)
	set(t, n, 32, 0)
	retire(t, n, 1, 1)
	values(t, n, settled(map[int]uint64{5: 0}))
	retire(t, n, 1, 0)
	values(t, n, settled(map[int]uint64{5: 0, 6: 8}))
	stays(t, n, "Retire", 3, n.Retire)
}

// P15.3: the last claim is undone, ready or not; none, if there is none.
func TestUndo(t *testing.T) {
	n := names.New(numbers())
	stays(t, n, "Undo", 0, n.Undo)
	for _, ready := range []bool{false, true} {
		claim(t, n, 5, 32)
		claim(t, n, 6, 33)
		before := taken(n)
		claim(t, n, 5, 34)
		if ready {
			set(t, n, 34, 9)
		}
		undo(t, n, 1, 2)
		if now := taken(n); now != before {
			t.Errorf("ready %v: %+v, not %+v", ready, now, before)
		}
		undo(t, n, 2, 0)
		stays(t, n, "Undo", 1, n.Undo)
	}
	values(t, n, settled(nil))
}

// P15.2, P15.3: a cell that is claimed again isn't ready, whichever way it became free.
func TestClaimedAgain(t *testing.T) {
	n := names.New(numbers())
	for range 3 {
		claim(t, n, 5, 32)
		set(t, n, 32, 9)
		undo(t, n, 1, 0)
		claim(t, n, 6, 32)
		stays(t, n, "Retire", 0, n.Retire)
		undo(t, n, 1, 0)
	}
	claim(t, n, 5, 32)
	set(t, n, 32, 9)
	retire(t, n, 1, 0)
	claim(t, n, 6, 5)
	stays(t, n, "Retire", 1, n.Retire)
	set(t, n, 5, 4)
	retire(t, n, 1, 0)
	claim(t, n, 6, 6)
	values(t, n, settled(map[int]uint64{5: 9, 6: 4}))
}

// P15.3: claims that are set and not retired yet turn no settled value.
func TestValuesBetween(t *testing.T) {
	n := full(t)
	want := settled(nil)
	for c := 43; c >= 32; c-- {
		set(t, n, c, uint64(c))
		values(t, n, want)
	}
	for k := range 12 {
		want[1+k] = uint64(32 + k)
		retire(t, n, 1, 11-k)
		values(t, n, want)
	}
}

// P15.1 to P15.3: a nil one, by every call.
func TestNil(t *testing.T) {
	var n *names.Names
	for range 2 {
		for _, k := range append(noCells(), 0, 1, 5, 31, 32, 33, 43) {
			look(t, n, k, 0)
			unready(t, n, k)
			refused(t, n, k)
			unset(t, n, k)
		}
		stays(t, n, "Retire", 0, n.Retire)
		stays(t, n, "Undo", 0, n.Undo)
		many(t, n, 0)
		values(t, n, [32]uint64{})
	}
}

// Two names share nothing, nor do names and what was handed in or answered.
func TestApart(t *testing.T) {
	x := numbers()
	n, m := names.New(x), names.New(x)
	before := taken(m)
	x[5] = 1
	claim(t, n, 5, 32, 33)
	set(t, n, 32, 7)
	retire(t, n, 1, 1)
	if now := taken(m); now != before {
		t.Errorf("%+v, not %+v", now, before)
	}
	l := n.Values()
	l[5] = 99
	values(t, n, settled(map[int]uint64{5: 7}))
	claim(t, m, 6, 32)
	look(t, n, 6, 6)
}
