package guess_test

import (
	"math"
	"testing"

	"undertow/api"
	"undertow/guess"
)

// back is a branch back by 8, jump one that hangs on a register.
func back() api.Inst { return api.Inst{Op: api.BNE, Rs1: 1, Rs2: 2, Imm: -8} }
func jump() api.Inst { return api.Inst{Op: api.JALR, Rd: 1, Rs1: 2, Imm: 12} }

// branches are all operations of that sort.
func branches() []int { return []int{api.BEQ, api.BNE, api.BLT, api.BGE, api.BLTU, api.BGEU} }

// immediates are those that stand at an edge, those that instructions have and those that none has; 4 isn't there.
func immediates() []int64 {
	return []int64{0, 2, 3, 5, 6, 8, 64, 4094, 4096, 1 << 19, 1<<20 - 2, 1<<32 + 4, math.MaxInt64, math.MaxInt64 - 3, -1, -2, -4, -8, -64, -4096, -1 << 20, 4 - 1<<32, math.MinInt64, math.MinInt64 + 4}
}

// addresses are those of every number, some of which aren't a multiple of 4, and those at both ends.
func addresses() []uint64 {
	l := []uint64{1 << 32, 1<<32 + 20, 1 << 63, 1<<63 - 4, 1<<63 - 1}
	for k := range uint64(140) {
		l = append(l, k, math.MaxUint64-k)
	}
	return l
}

// next holds where an instruction is thought to go on against what is wanted; it is asked twice, as that turns nothing.
func next(t *testing.T, g *guess.Guess, i api.Inst, pc, want uint64) {
	t.Helper()
	for range 2 {
		if got := g.Next(i, pc); got != want {
			t.Errorf("%+v at %#x: %#x, not %#x", i, pc, got, want)
		}
	}
}

// counts holds an address's counter against what is wanted; it is asked twice, as that turns nothing.
func counts(t *testing.T, g *guess.Guess, pc uint64, want int) {
	t.Helper()
	for range 2 {
		if got := g.Counter(pc); got != want {
			t.Errorf("Counter(%#x): %d, not %d", pc, got, want)
		}
	}
}

// at is a guess whose counter of an address is n.
func at(t *testing.T, pc uint64, n int) *guess.Guess {
	t.Helper()
	g := guess.New()
	for range n - 1 {
		g.Train(back(), pc, pc-8)
	}
	if n == 0 {
		g.Train(back(), pc, pc+4)
	}
	counts(t, g, pc, n)
	return g
}

// fresh holds that a guess thinks of all addresses but those of a number as a new one does.
func fresh(t *testing.T, g *guess.Guess, but int) {
	t.Helper()
	for k := range 16 {
		if pc := uint64(4 * k); k != but {
			counts(t, g, pc, 1)
			next(t, g, back(), pc, pc+4)
			next(t, g, jump(), pc, pc+4)
		}
	}
}

// P14.1, P14.2: as it is written down.
func TestWrittenDown(t *testing.T) {
	g := guess.New()
	next(t, g, back(), 8, 12)
	g.Train(back(), 8, 0)
	next(t, g, back(), 8, 0)
	counts(t, g, 8, 2)
}

// P14.1: a new guess has counters of 1 and no targets, whatever the address is.
func TestNew(t *testing.T) {
	g := guess.New()
	for _, pc := range addresses() {
		counts(t, g, pc, 1)
		next(t, g, back(), pc, pc+4)
		next(t, g, jump(), pc, pc+4)
		next(t, g, api.Inst{Op: api.JAL, Imm: -8}, pc, pc-8)
		next(t, g, api.Inst{Op: api.ADD, Imm: -8}, pc, pc+4)
	}
}

// P14.1, P14.2: from each counter a branch is trained either way, and is thought to go as its counter says.
func TestCounters(t *testing.T) {
	for _, c := range []struct{ from, taken, passed int }{{0, 1, 0}, {1, 2, 0}, {2, 3, 1}, {3, 3, 2}} {
		for _, op := range branches() {
			i := api.Inst{Op: op, Rs1: 1, Rs2: 2, Imm: -8}
			for to, goes := range map[int]uint64{c.taken: 16, c.passed: 28} {
				g := at(t, 24, c.from)
				next(t, g, i, 24, []uint64{28, 28, 16, 16}[c.from])
				g.Train(i, 24, goes)
				counts(t, g, 24, to)
				next(t, g, i, 24, []uint64{28, 28, 16, 16}[to])
				fresh(t, g, 6)
			}
		}
	}
}

// P14.2: a counter stays where it ends, however often it is trained, and comes back by as many steps as it has.
func TestEnds(t *testing.T) {
	g := guess.New()
	train := func(goes uint64, want ...int) {
		t.Helper()
		for _, n := range want {
			g.Train(back(), 24, goes)
			counts(t, g, 24, n)
		}
	}
	for range 3 {
		train(16, 2, 3, 3, 3, 3, 3, 3)
		train(28, 2, 1, 0, 0, 0, 0, 0)
		train(16, 1)
	}
}

// P14.1, P14.3: an address's number is that of all that are 64 apart and of those that aren't a multiple of 4; of others nothing is turned.
func TestNumbers(t *testing.T) {
	for k := range 16 {
		for _, pc := range []uint64{uint64(4 * k), uint64(4*k + 1), uint64(4*k + 3), uint64(4*k + 64), 1<<40 + uint64(4*k+2), math.MaxUint64 - 63 + uint64(4*k)} {
			g := guess.New()
			g.Train(back(), pc, pc-8)
			g.Train(jump(), pc, 100)
			fresh(t, g, k)
			for _, of := range addresses() {
				if of/4%16 == uint64(k) {
					counts(t, g, of, 2)
					next(t, g, back(), of, of-8)
					next(t, g, jump(), of, 100)
				} else {
					counts(t, g, of, 1)
					next(t, g, back(), of, of+4)
					next(t, g, jump(), of, of+4)
				}
			}
		}
	}
}

// P14.2, P14.3: all numbers have counters and targets of their own at once.
func TestAllNumbers(t *testing.T) {
	g := guess.New()
	for k := range uint64(16) {
		for range k % 4 {
			g.Train(back(), 4*k, 4*k-8)
		}
		g.Train(jump(), 4*k, 1000+k)
	}
	for k := range uint64(16) {
		counts(t, g, 4*k, []int{1, 2, 3, 3}[k%4])
		next(t, g, jump(), 4*k, 1000+k)
	}
}

// P14.1, P14.2: every immediate, at addresses at which the sums go round, too.
func TestImmediates(t *testing.T) {
	for _, imm := range immediates() {
		for _, pc := range []uint64{0, 4, 8, 60, 64, 1023, 1 << 63, math.MaxUint64 - 7, math.MaxUint64 - 3, math.MaxUint64} {
			for _, op := range branches() {
				i := api.Inst{Op: op, Imm: imm}
				to := pc + uint64(imm)
				g := guess.New()
				next(t, g, i, pc, pc+4)
				g.Train(i, pc, to)
				counts(t, g, pc, 2)
				next(t, g, i, pc, to)
				g.Train(i, pc, pc+4)
				counts(t, g, pc, 1)
				next(t, g, i, pc, pc+4)
			}
			next(t, guess.New(), api.Inst{Op: api.JAL, Imm: imm}, pc, pc+uint64(imm))
		}
	}
}

// P14.1: as numbers, where the sums go round.
func TestRound(t *testing.T) {
	g := at(t, 0, 2)
	next(t, g, back(), 0, 0xffff_ffff_ffff_fff8)
	next(t, g, api.Inst{Op: api.BGE, Imm: 4094}, 1<<32, 1<<32+4094)
	g = at(t, math.MaxUint64, 2)
	next(t, g, back(), math.MaxUint64, 0xffff_ffff_ffff_fff7)
	next(t, g, api.Inst{Op: api.BGE, Imm: 9}, math.MaxUint64, 8)
	next(t, g, api.Inst{Op: api.JAL, Imm: 1}, math.MaxUint64, 0)
	next(t, g, api.Inst{Op: api.ADD}, math.MaxUint64, 3)
	next(t, g, jump(), math.MaxUint64-3, 0)
	next(t, guess.New(), back(), math.MaxUint64-3, 0)
}

// P14.2: a branch whose immediate is 4 trains nothing, whichever way it went; it is thought to go on behind itself.
func TestFour(t *testing.T) {
	for n := range 4 {
		for _, op := range branches() {
			g, i := at(t, 24, n), api.Inst{Op: op, Rs1: 1, Rs2: 2, Imm: 4}
			for _, goes := range []uint64{28, 24, 20, 0, math.MaxUint64} {
				g.Train(i, 24, goes)
				counts(t, g, 24, n)
				next(t, g, i, 24, 28)
			}
			fresh(t, g, 6)
		}
	}
}

// P14.2: whatever isn't pc + the immediate counts as what is behind the branch.
func TestOtherNext(t *testing.T) {
	for n := range 4 {
		for _, goes := range []uint64{28, 24, 0, 15, 17, 20, 32, 1<<32 + 16, 1<<63 + 16, math.MaxUint64, math.MaxUint64 - 15} {
			g := at(t, 24, n)
			g.Train(back(), 24, goes)
			counts(t, g, 24, max(n-1, 0))
		}
		g := at(t, 64, n)
		g.Train(back(), 64, 1<<64-8) // that of another address of the same number
		counts(t, g, 64, max(n-1, 0))
	}
}

// P14.1, P14.2: a JALR has no target, one, 0, and another one behind it; what it is besides turns nothing.
func TestJumps(t *testing.T) {
	for _, imm := range append(immediates(), 4) {
		g, i := guess.New(), api.Inst{Op: api.JALR, Rd: 1, Rs1: 2, Imm: imm}
		next(t, g, i, 40, 44)
		for _, to := range []uint64{100, 0, 100, 44, 40, 3, math.MaxUint64, 1 << 63, 0, 40 + uint64(imm)} {
			g.Train(i, 40, to)
			next(t, g, i, 40, to)
			next(t, g, jump(), 40+64, to)
			counts(t, g, 40, 1)
			next(t, g, back(), 40, 44)
			fresh(t, g, 10)
		}
	}
	g := guess.New()
	g.Train(jump(), 0, 0) // the first one that it is trained with is 0
	next(t, g, jump(), 0, 0)
	next(t, g, jump(), 64, 0)
	fresh(t, g, 0)
}

// P14.2: a JALR and a branch of one number don't turn one another.
func TestJumpAndBranch(t *testing.T) {
	g := guess.New()
	g.Train(jump(), 24, 100)
	for k, n := range []int{2, 3, 3} {
		g.Train(back(), 24, 16)
		counts(t, g, 24, n)
		next(t, g, jump(), 24, []uint64{100, 200, 0}[k])
		g.Train(jump(), 24, []uint64{200, 0, 16}[k])
		counts(t, g, 24, n)
		next(t, g, back(), 24, 16)
	}
	for _, n := range []int{2, 1, 0, 0} {
		g.Train(back(), 24, 28)
		counts(t, g, 24, n)
		next(t, g, jump(), 24, 16)
	}
}

// P14.3: from each counter, a branch that went one way twice is thought to go it again, also if two instructions of one number went it.
func TestTwice(t *testing.T) {
	for n := range 4 {
		for _, c := range []struct{ goes, other uint64 }{{16, 128}, {28, 92}} {
			g := at(t, 24, n)
			g.Train(back(), 24, c.goes)
			g.Train(back(), 24, c.goes)
			next(t, g, back(), 24, c.goes)
			g = at(t, 24, n)
			g.Train(back(), 24, c.goes)
			g.Train(api.Inst{Op: api.BLT, Imm: 40}, 88, c.other)
			next(t, g, back(), 24, c.goes)
		}
	}
}

// Two guesses share nothing.
func TestApart(t *testing.T) {
	g := guess.New()
	h := at(t, 24, 3)
	h.Train(jump(), 24, 100)
	fresh(t, g, -1)
	g.Train(jump(), 24, 50)
	g.Train(back(), 24, 28)
	counts(t, h, 24, 3)
	next(t, h, jump(), 24, 100)
	fresh(t, guess.New(), -1)
}
