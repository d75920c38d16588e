package decode_test

import (
	"strings"
	"testing"

	"undertow/api"
)

// row is an operation as the chapter's table tells it: where its immediate is from, and its word from bit 31 down.
// Of the word 0 and 1 are as they must be, d is rd's, a rs1's, b rs2's, i the immediate's, q Aq, l Rl, p Pred's, s Succ's, - ignored.
type row struct {
	op    int
	kind  byte
	shape string
}

// rows are all operations, by their numbers. A word of TSO is one of FENCE, too: the later row holds.
func rows() []row {
	return []row{
		{api.LUI, 'U', "iiiiiiiiiiiiiiiiiiii ddddd 0110111"},
		{api.AUIPC, 'U', "iiiiiiiiiiiiiiiiiiii ddddd 0010111"},
		{api.JAL, 'J', "iiiiiiiiiiiiiiiiiiii ddddd 1101111"},
		{api.JALR, 'I', "iiiiiiiiiiii aaaaa 000 ddddd 1100111"},
		{api.BEQ, 'B', "iiiiiii bbbbb aaaaa 000 iiiii 1100011"},
		{api.BNE, 'B', "iiiiiii bbbbb aaaaa 001 iiiii 1100011"},
		{api.BLT, 'B', "iiiiiii bbbbb aaaaa 100 iiiii 1100011"},
		{api.BGE, 'B', "iiiiiii bbbbb aaaaa 101 iiiii 1100011"},
		{api.BLTU, 'B', "iiiiiii bbbbb aaaaa 110 iiiii 1100011"},
		{api.BGEU, 'B', "iiiiiii bbbbb aaaaa 111 iiiii 1100011"},
		{api.LB, 'I', "iiiiiiiiiiii aaaaa 000 ddddd 0000011"},
		{api.LH, 'I', "iiiiiiiiiiii aaaaa 001 ddddd 0000011"},
		{api.LW, 'I', "iiiiiiiiiiii aaaaa 010 ddddd 0000011"},
		{api.LD, 'I', "iiiiiiiiiiii aaaaa 011 ddddd 0000011"},
		{api.LBU, 'I', "iiiiiiiiiiii aaaaa 100 ddddd 0000011"},
		{api.LHU, 'I', "iiiiiiiiiiii aaaaa 101 ddddd 0000011"},
		{api.LWU, 'I', "iiiiiiiiiiii aaaaa 110 ddddd 0000011"},
		{api.SB, 'S', "iiiiiii bbbbb aaaaa 000 iiiii 0100011"},
		{api.SH, 'S', "iiiiiii bbbbb aaaaa 001 iiiii 0100011"},
		{api.SW, 'S', "iiiiiii bbbbb aaaaa 010 iiiii 0100011"},
		{api.SD, 'S', "iiiiiii bbbbb aaaaa 011 iiiii 0100011"},
		{api.ADDI, 'I', "iiiiiiiiiiii aaaaa 000 ddddd 0010011"},
		{api.SLTI, 'I', "iiiiiiiiiiii aaaaa 010 ddddd 0010011"},
		{api.SLTIU, 'I', "iiiiiiiiiiii aaaaa 011 ddddd 0010011"},
		{api.XORI, 'I', "iiiiiiiiiiii aaaaa 100 ddddd 0010011"},
		{api.ORI, 'I', "iiiiiiiiiiii aaaaa 110 ddddd 0010011"},
		{api.ANDI, 'I', "iiiiiiiiiiii aaaaa 111 ddddd 0010011"},
		{api.SLLI, 'N', "000000 iiiiii aaaaa 001 ddddd 0010011"},
		{api.SRLI, 'N', "000000 iiiiii aaaaa 101 ddddd 0010011"},
		{api.SRAI, 'N', "010000 iiiiii aaaaa 101 ddddd 0010011"},
		{api.ADDIW, 'I', "iiiiiiiiiiii aaaaa 000 ddddd 0011011"},
		{api.SLLIW, 'N', "0000000 iiiii aaaaa 001 ddddd 0011011"},
		{api.SRLIW, 'N', "0000000 iiiii aaaaa 101 ddddd 0011011"},
		{api.SRAIW, 'N', "0100000 iiiii aaaaa 101 ddddd 0011011"},
		{api.ADD, 0, "0000000 bbbbb aaaaa 000 ddddd 0110011"},
		{api.SUB, 0, "0100000 bbbbb aaaaa 000 ddddd 0110011"},
		{api.SLL, 0, "0000000 bbbbb aaaaa 001 ddddd 0110011"},
		{api.SLT, 0, "0000000 bbbbb aaaaa 010 ddddd 0110011"},
		{api.SLTU, 0, "0000000 bbbbb aaaaa 011 ddddd 0110011"},
		{api.XOR, 0, "0000000 bbbbb aaaaa 100 ddddd 0110011"},
		{api.SRL, 0, "0000000 bbbbb aaaaa 101 ddddd 0110011"},
		{api.SRA, 0, "0100000 bbbbb aaaaa 101 ddddd 0110011"},
		{api.OR, 0, "0000000 bbbbb aaaaa 110 ddddd 0110011"},
		{api.AND, 0, "0000000 bbbbb aaaaa 111 ddddd 0110011"},
		{api.ADDW, 0, "0000000 bbbbb aaaaa 000 ddddd 0111011"},
		{api.SUBW, 0, "0100000 bbbbb aaaaa 000 ddddd 0111011"},
		{api.SLLW, 0, "0000000 bbbbb aaaaa 001 ddddd 0111011"},
		{api.SRLW, 0, "0000000 bbbbb aaaaa 101 ddddd 0111011"},
		{api.SRAW, 0, "0100000 bbbbb aaaaa 101 ddddd 0111011"},
		{api.FENCE, 0, "---- pppp ssss ----- 000 ----- 0001111"},
		{api.TSO, 0, "1000 0011 0011 ----- 000 ----- 0001111"},
		{api.ECALL, 0, "0000 0000 0000 00000 000 00000 1110011"},
		{api.EBREAK, 0, "0000 0000 0001 00000 000 00000 1110011"},
		{api.LRW, 0, "00010 q l 00000 aaaaa 010 ddddd 0101111"},
		{api.LRD, 0, "00010 q l 00000 aaaaa 011 ddddd 0101111"},
		{api.SCW, 0, "00011 q l bbbbb aaaaa 010 ddddd 0101111"},
		{api.SCD, 0, "00011 q l bbbbb aaaaa 011 ddddd 0101111"},
		{api.SWAPW, 0, "00001 q l bbbbb aaaaa 010 ddddd 0101111"},
		{api.AMOADDW, 0, "00000 q l bbbbb aaaaa 010 ddddd 0101111"},
		{api.AMOXORW, 0, "00100 q l bbbbb aaaaa 010 ddddd 0101111"},
		{api.AMOANDW, 0, "01100 q l bbbbb aaaaa 010 ddddd 0101111"},
		{api.AMOORW, 0, "01000 q l bbbbb aaaaa 010 ddddd 0101111"},
		{api.MINW, 0, "10000 q l bbbbb aaaaa 010 ddddd 0101111"},
		{api.MAXW, 0, "10100 q l bbbbb aaaaa 010 ddddd 0101111"},
		{api.MINUW, 0, "11000 q l bbbbb aaaaa 010 ddddd 0101111"},
		{api.MAXUW, 0, "11100 q l bbbbb aaaaa 010 ddddd 0101111"},
		{api.SWAPD, 0, "00001 q l bbbbb aaaaa 011 ddddd 0101111"},
		{api.AMOADDD, 0, "00000 q l bbbbb aaaaa 011 ddddd 0101111"},
		{api.AMOXORD, 0, "00100 q l bbbbb aaaaa 011 ddddd 0101111"},
		{api.AMOANDD, 0, "01100 q l bbbbb aaaaa 011 ddddd 0101111"},
		{api.AMOORD, 0, "01000 q l bbbbb aaaaa 011 ddddd 0101111"},
		{api.MIND, 0, "10000 q l bbbbb aaaaa 011 ddddd 0101111"},
		{api.MAXD, 0, "10100 q l bbbbb aaaaa 011 ddddd 0101111"},
		{api.MINUD, 0, "11000 q l bbbbb aaaaa 011 ddddd 0101111"},
		{api.MAXUD, 0, "11100 q l bbbbb aaaaa 011 ddddd 0101111"},
	}
}

// plan is a row made ready: the bits that must be so, and how they are; of each letter the bits that it has, from the highest one of its number down.
type plan struct {
	op         int
	kind       byte
	must, are  uint32
	placesOf   [128][]int
	least, top int64 // of its immediates
	step       int64
}

func planOf(r row) *plan {
	p := &plan{op: r.op, kind: r.kind}
	for k, c := range []byte(strings.ReplaceAll(r.shape, " ", "")) {
		bit := 31 - k
		if c == '0' || c == '1' {
			p.must |= 1 << bit
			p.are |= uint32(c-'0') << bit
		}
		p.placesOf[c] = append(p.placesOf[c], bit)
	}
	switch r.kind {
	case 'I', 'S':
		p.least, p.top, p.step = -2048, 2047, 1
	case 'B':
		p.least, p.top, p.step = -4096, 4094, 2
		p.placesOf['i'] = []int{31, 7, 30, 29, 28, 27, 26, 25, 11, 10, 9, 8}
	case 'U':
		p.least, p.top, p.step = -1<<31, 1<<31-4096, 4096
	case 'J':
		p.least, p.top, p.step = -1<<20, 1<<20-2, 2
		p.placesOf['i'] = []int{31, 19, 18, 17, 16, 15, 14, 13, 12, 20, 30, 29, 28, 27, 26, 25, 24, 23, 22, 21}
	case 'N':
		p.least, p.top, p.step = 0, int64(1)<<len(p.placesOf['i'])-1, 1
	}
	return p
}

// plans are those of all operations; plans[k] is of number k+1.
var plans = func() []*plan {
	var l []*plan
	for _, r := range rows() {
		l = append(l, planOf(r))
	}
	return l
}()

// byOpcode are the plans of each opcode.
var byOpcode = func() (m [128][]*plan) {
	for _, p := range plans {
		m[p.are&0x7f] = append(m[p.are&0x7f], p)
	}
	return m
}()

// number is the one that a letter's bits of a word are.
func (p *plan) number(w uint32, letter byte) int {
	x := 0
	for _, bit := range p.placesOf[letter] {
		x = 2*x + int(w>>bit&1)
	}
	return x
}

// with is a word with a number in a letter's bits.
func (p *plan) with(w uint32, letter byte, x int64) uint32 {
	l := p.placesOf[letter]
	for k := range l {
		bit := l[len(l)-1-k]
		w = w&^(1<<bit) | uint32(x>>k&1)<<bit
	}
	return w
}

// inst is the instruction of a word that is the operation's.
func (p *plan) inst(w uint32) api.Inst {
	i := api.Inst{
		Op: p.op, Rd: p.number(w, 'd'), Rs1: p.number(w, 'a'), Rs2: p.number(w, 'b'),
		Imm: int64(p.number(w, 'i')) * p.step,
		Aq:  p.number(w, 'q') == 1, Rl: p.number(w, 'l') == 1,
		Pred: p.number(w, 'p'), Succ: p.number(w, 's'),
	}
	if i.Imm > p.top { // its highest bit is a sign
		i.Imm += 2 * p.least
	}
	if p.op == api.TSO {
		i.Pred, i.Succ = 3, 3
	}
	return i
}

// word is the word of an operation's instruction; ignored bits are 0.
func (p *plan) word(i api.Inst) uint32 {
	w := p.with(p.are, 'd', int64(i.Rd))
	w = p.with(w, 'a', int64(i.Rs1))
	w = p.with(w, 'b', int64(i.Rs2))
	if p.step != 0 {
		w = p.with(w, 'i', i.Imm/p.step)
	}
	w = p.with(w, 'q', bit(i.Aq))
	w = p.with(w, 'l', bit(i.Rl))
	w = p.with(w, 'p', int64(i.Pred))
	return p.with(w, 's', int64(i.Succ))
}

func bit(b bool) int64 {
	if b {
		return 1
	}
	return 0
}

// has says whether an operation has the part of a letter.
func (p *plan) has(letter byte) bool { return len(p.placesOf[letter]) > 0 }

// told is what the table tells of a word.
func told(w uint32) (api.Inst, api.Errno) {
	var of *plan
	for _, p := range byOpcode[w&0x7f] {
		if w&p.must == p.are {
			of = p
		}
	}
	if of == nil {
		return api.Inst{}, api.ErrIllegal
	}
	return of.inst(w), api.OK
}

// immediates are those of an operation that lie at edges: the least and the greatest ones, those about 0, and those of one bit.
func (p *plan) immediates() []int64 {
	if p.kind == 0 {
		return []int64{0}
	}
	var l []int64
	add := func(imm int64) {
		if p.least <= imm && imm <= p.top && imm%p.step == 0 {
			l = append(l, imm)
		}
	}
	for k := range int64(5) {
		add(k * p.step)
		add(-k * p.step)
		add(p.least + k*p.step)
		add(p.top - k*p.step)
	}
	for k := range 32 {
		add(1 << k)
		add(-1 << k)
		add(p.top - 1<<k)
		add(p.least + 1<<k)
	}
	return l
}

// words are many of an operation's: all registers, its immediates at their edges, all sets, both annotations.
func (p *plan) words() []uint32 {
	var l []uint32
	registers := []int64{0, 1, 2, 4, 8, 16, 10, 21, 31}
	for _, r := range registers {
		l = append(l, p.with(p.with(p.with(p.are, 'd', r), 'a', 31-r), 'b', r^5))
	}
	for k, imm := range p.immediates() {
		w := l[k%len(l)]
		if p.step != 0 {
			w = p.with(w, 'i', imm/p.step)
		}
		l = append(l, w)
	}
	for k, w := range l {
		w = p.with(w, 'q', int64(k)&1)
		w = p.with(w, 'l', int64(k)>>1&1)
		w = p.with(w, 'p', int64(k)*7)
		w = p.with(w, 's', int64(k)*11)
		l = append(l, p.with(w, '-', int64(k)*0x2a5))
	}
	return l
}

// The rows are all operations, each in its place, each of 32 bits; a word of none is a word of another one but of TSO and FENCE: what the other tests lean on.
func TestRows(t *testing.T) {
	if len(plans) != api.MaxOp {
		t.Fatal(len(plans))
	}
	for k, r := range rows() {
		if n := len(strings.ReplaceAll(r.shape, " ", "")); r.op != k+1 || n != 32 {
			t.Errorf("row %d: operation %d of %d bits", k+1, r.op, n)
		}
	}
	for k, p := range plans {
		for _, o := range plans[:k] {
			both := p.must & o.must
			if alike := p.are&both == o.are&both; alike && p.op != api.TSO {
				t.Errorf("%d and %d are alike", p.op, o.op)
			}
		}
	}
}
