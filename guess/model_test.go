package guess_test

import (
	"math"
	"testing"

	"undertow/api"
	"undertow/guess"
	"undertow/ops"
)

// A draw is a row of numbers that is always the same one.
type draw uint64

func (d *draw) word() uint64 {
	*d += 0x9e37_79b9_7f4a_7c15
	x := uint64(*d)
	x = (x ^ x>>30) * 0xbf58_476d_1ce4_e5b9
	x = (x ^ x>>27) * 0x94d0_49bb_1331_11eb
	return x ^ x>>31
}

func (d *draw) of(n int) int { return int(d.word() % uint64(n)) }

// drawn is one of some things.
func drawn[T any](d *draw, l []T) T { return l[d.of(len(l))] }

// A deed is a training.
type deed struct {
	i        api.Inst
	pc, next uint64
}

// A model has all that it was trained with; what is thought is told anew each time.
type model []deed

// counter is an address's: 1, and as the branches of its number went.
func (m model) counter(pc uint64) int {
	n := 1
	for _, d := range m {
		if d.pc>>2&15 != pc>>2&15 || ops.Sort(d.i.Op) != ops.Branch || d.i.Imm == 4 {
			continue
		}
		if d.next-d.pc == uint64(d.i.Imm) {
			n++
		} else {
			n--
		}
		n = max(0, min(3, n))
	}
	return n
}

// next is where an instruction is thought to go on: as the last jump of its number went.
func (m model) next(i api.Inst, pc uint64) uint64 {
	to := pc + 4
	if i.Op == api.JAL || ops.Sort(i.Op) == ops.Branch && m.counter(pc) > 1 {
		to = pc + uint64(i.Imm)
	}
	for _, d := range m {
		if i.Op == api.JALR && d.i.Op == api.JALR && d.pc>>2&15 == pc>>2&15 {
			to = d.next
		}
	}
	return to
}

// check holds all that a guess tells of an address against the model.
func (m model) check(t *testing.T, g *guess.Guess, pc uint64) {
	t.Helper()
	counts(t, g, pc, m.counter(pc))
	for _, i := range []api.Inst{back(), jump(), {Op: api.BGEU, Imm: 4}, {Op: api.JAL, Rd: 1, Imm: 2048}, {Op: api.LW, Imm: 16}} {
		next(t, g, i, pc, m.next(i, pc))
	}
}

// some is an instruction: oftener than not a branch or a JALR.
func some(d *draw) api.Inst {
	i := api.Inst{Rd: d.of(32), Rs1: d.of(32), Rs2: d.of(32), Imm: drawn(d, append(immediates(), 4, 4, 8, -8))}
	switch d.of(6) {
	case 0, 1, 2:
		i.Op = drawn(d, branches())
	case 3, 4:
		i.Op = api.JALR
	default:
		i.Op = d.of(api.MaxOp+4) - 1
	}
	return i
}

// P14.1 to P14.3: rows of many drawn trainings.
func TestModel(t *testing.T) {
	d := draw(14)
	for range 40 {
		g, m := guess.New(), model(nil)
		for range 150 {
			i, pc := some(&d), drawn(&d, addresses())
			goes := drawn(&d, []uint64{pc + uint64(i.Imm), pc + uint64(i.Imm), pc + 4, d.word(), 0})
			g.Train(i, pc, goes)
			m = append(m, deed{i, pc, goes})
			m.check(t, g, pc)
			m.check(t, g, drawn(&d, addresses()))
		}
	}
}

// P14.1, P14.2: every row of six ways that two branches and a jump of one number and one of another number go.
func TestRows(t *testing.T) {
	deeds := []deed{{back(), 24, 16}, {back(), 24, 28}, {api.Inst{Op: api.BLTU, Imm: 64}, 88, 152}, {api.Inst{Op: api.BLTU, Imm: 64}, 88, 92}, {jump(), 24, 88}, {back(), 28, 20}}
	for row := range 6 * 6 * 6 * 6 * 6 * 6 {
		g, m := guess.New(), model(nil)
		for range 6 {
			d := deeds[row%6]
			row /= 6
			g.Train(d.i, d.pc, d.next)
			m = append(m, d)
		}
		for _, pc := range []uint64{24, 28, 32, 88} {
			m.check(t, g, pc)
		}
	}
}

// others are all operations that train nothing: those of every sort but branches, but JALR.
func others() []int {
	var l []int
	for op := 1; op <= api.MaxOp; op++ {
		if op != api.JALR && (op < api.BEQ || op > api.BGEU) {
			l = append(l, op)
		}
	}
	return l
}

// noOps are numbers of no operation, some of whose low bits are those of one.
func noOps() []int {
	l := []int{0, math.MaxInt, math.MinInt, -api.JAL, -api.JALR, -api.BEQ}
	for k := range 40 {
		l = append(l, -k-1, api.MaxOp+1+k)
	}
	for k := 8; k < 63; k++ {
		l = append(l, 1<<k|api.JAL, 1<<k|api.JALR, 1<<k|api.BEQ, -1<<k|api.BGEU)
	}
	return l
}

// trained is a guess that has been trained with a branch and a jump of every number.
func trained() (*guess.Guess, model) {
	g, m := guess.New(), model(nil)
	for k := range uint64(16) {
		for _, d := range []deed{{back(), 4 * k, 4*k - 8}, {jump(), 4 * k, 500 + k}} {
			g.Train(d.i, d.pc, d.next)
			m = append(m, d)
		}
	}
	return g, m
}

// P14.1, P14.2: of each other operation, and of those that are none, what stands behind is next (of JAL what its immediate says), and they train nothing.
func TestOthers(t *testing.T) {
	for _, op := range append(others(), noOps()...) {
		g, m := trained()
		for _, imm := range []int64{0, 4, -8, 2048, math.MinInt64} {
			i := api.Inst{Op: op, Rd: 1, Rs1: 2, Rs2: 3, Imm: imm}
			for _, pc := range []uint64{0, 3, 60, 64, math.MaxUint64 - 3, math.MaxUint64} {
				want := pc + 4
				if op == api.JAL {
					want = pc + uint64(imm)
				}
				next(t, g, i, pc, want)
				g.Train(i, pc, pc+uint64(imm))
				g.Train(i, pc, pc+4)
				g.Train(i, pc, 900)
			}
		}
		for k := range uint64(16) {
			counts(t, g, 4*k, 2)
			m.check(t, g, 4*k)
		}
	}
}

// P14.1, P14.2: what an instruction has beside its operation and immediate turns nothing.
func TestFields(t *testing.T) {
	for _, plain := range []api.Inst{back(), jump(), {Op: api.JAL, Imm: 16}, {Op: api.SW, Imm: 16}} {
		for _, r := range []int{0, 31, 32, -1, math.MaxInt, math.MinInt} {
			i := api.Inst{Op: plain.Op, Rd: r, Rs1: -r, Rs2: r ^ 1, Imm: plain.Imm, Aq: true, Rl: true, Pred: r, Succ: -r}
			g, h := guess.New(), guess.New()
			for _, goes := range []uint64{16, 16, 28, 28, 28, 16} {
				g.Train(plain, 24, goes)
				h.Train(i, 24, goes)
				counts(t, h, 24, g.Counter(24))
				next(t, h, i, 24, g.Next(plain, 24))
				next(t, h, plain, 24, g.Next(plain, 24))
			}
		}
	}
}

// P14.2: a nil guess thinks as a new one does, has counters of 0, and is trained with nothing.
func TestNil(t *testing.T) {
	var g *guess.Guess
	all := append(append(branches(), others()...), append(noOps(), api.JALR)...)
	for range 2 {
		for _, pc := range addresses() {
			counts(t, g, pc, 0)
			for _, imm := range []int64{-8, 0, 4, math.MaxInt64} {
				for _, op := range []int{api.BEQ, api.BGEU, api.JAL, api.JALR, api.ADD, 0} {
					i := api.Inst{Op: op, Imm: imm}
					next(t, g, i, pc, model(nil).next(i, pc))
				}
			}
		}
		for _, op := range all {
			i := api.Inst{Op: op, Imm: -8}
			next(t, g, i, 24, guess.New().Next(i, 24))
			g.Train(i, 24, 16)
			g.Train(i, 24, 100)
		}
	}
	fresh(t, guess.New(), -1)
}
