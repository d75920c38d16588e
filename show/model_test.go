package show_test

import (
	"fmt"
	"math"
	"regexp"
	"strconv"
	"strings"
	"testing"

	"undertow/api"
	"undertow/show"
)

// kind is some operations whose instructions are right, and told, alike: which registers they have (d is rd, a rs1, b rs2), the least and the greatest immediate and from which one to the next one it goes, whether they may be annotated, their sets, and what stands behind their names (i is the immediate, p and s are the sets).
type kind struct {
	first, last       int
	registers         string
	least, most, step int64
	annotated         bool
	leastSet, mostSet int
	layout            string
}

// kinds are those of all operations, one behind the other.
var kinds = []kind{
	{first: api.LUI, last: api.AUIPC, registers: "d", least: -1 << 31, most: 1<<31 - 4096, step: 4096, layout: " {d}, {i}"},
	{first: api.JAL, last: api.JAL, registers: "d", least: -1 << 20, most: 1<<20 - 2, step: 2, layout: " {d}, {i}"},
	{first: api.JALR, last: api.JALR, registers: "da", least: -2048, most: 2047, step: 1, layout: " {d}, {a}, {i}"},
	{first: api.BEQ, last: api.BGEU, registers: "ab", least: -4096, most: 4094, step: 2, layout: " {a}, {b}, {i}"},
	{first: api.LB, last: api.LWU, registers: "da", least: -2048, most: 2047, step: 1, layout: " {d}, {i}({a})"},
	{first: api.SB, last: api.SD, registers: "ab", least: -2048, most: 2047, step: 1, layout: " {b}, {i}({a})"},
	{first: api.ADDI, last: api.ANDI, registers: "da", least: -2048, most: 2047, step: 1, layout: " {d}, {a}, {i}"},
	{first: api.SLLI, last: api.SRAI, registers: "da", most: 63, step: 1, layout: " {d}, {a}, {i}"},
	{first: api.ADDIW, last: api.ADDIW, registers: "da", least: -2048, most: 2047, step: 1, layout: " {d}, {a}, {i}"},
	{first: api.SLLIW, last: api.SRAIW, registers: "da", most: 31, step: 1, layout: " {d}, {a}, {i}"},
	{first: api.ADD, last: api.SRAW, registers: "dab", step: 1, layout: " {d}, {a}, {b}"},
	{first: api.FENCE, last: api.FENCE, step: 1, mostSet: 15, layout: " {p}, {s}"},
	{first: api.TSO, last: api.TSO, step: 1, leastSet: 3, mostSet: 3},
	{first: api.ECALL, last: api.EBREAK, step: 1},
	{first: api.LRW, last: api.LRD, registers: "da", step: 1, annotated: true, layout: " {d}, ({a})"},
	{first: api.SCW, last: api.MAXUD, registers: "dab", step: 1, annotated: true, layout: " {d}, {b}, ({a})"},
}

// kindOf is an operation's kind; false, if it is none.
func kindOf(op int) (kind, bool) {
	for _, k := range kinds {
		if k.first <= op && op <= k.last {
			return k, true
		}
	}
	return kind{}, false
}

// mostRegister is the last register that an instruction may have as d, a or b.
func (k kind) mostRegister(letter string) int {
	if strings.Contains(k.registers, letter) {
		return 31
	}
	return 0
}

// right says whether an instruction is, as the table tells it.
func right(i api.Inst) bool {
	k, ok := kindOf(i.Op)
	return ok &&
		0 <= i.Rd && i.Rd <= k.mostRegister("d") &&
		0 <= i.Rs1 && i.Rs1 <= k.mostRegister("a") &&
		0 <= i.Rs2 && i.Rs2 <= k.mostRegister("b") &&
		k.least <= i.Imm && i.Imm <= k.most && i.Imm%k.step == 0 &&
		(k.annotated || !i.Aq && !i.Rl) &&
		k.leastSet <= i.Pred && i.Pred <= k.mostSet &&
		k.leastSet <= i.Succ && i.Succ <= k.mostSet
}

// setTexts are the sets' texts, by their numbers.
var setTexts = []string{"0", "w", "r", "rw", "o", "ow", "or", "orw", "i", "iw", "ir", "irw", "io", "iow", "ior", "iorw"}

// annotations are what stands behind a name: of none, Rl, Aq, both.
var annotations = []string{"", ".rl", ".aq", ".aqrl"}

// names are the operations' as they are written down, by their numbers.
var names = func() map[int]string {
	m := map[int]string{}
	for _, c := range allWritten() {
		if name, _, _ := strings.Cut(c.s, " "); !c.i.Aq && !c.i.Rl {
			m[c.i.Op] = name
		}
	}
	return m
}()

// byName are what annotated names tell: the operation, the annotations, TSO's sets.
var byName = func() map[string]api.Inst {
	m := map[string]api.Inst{}
	for op, name := range names {
		i := plain(op)
		k, _ := kindOf(op)
		for both, text := range annotations {
			if i.Aq, i.Rl = both&2 != 0, both&1 != 0; both == 0 || k.annotated {
				m[name+text] = i
			}
		}
	}
	return m
}()

// text is the text of an instruction that is right.
func text(i api.Inst) string {
	k, _ := kindOf(i.Op)
	both := 0
	if i.Aq {
		both |= 2
	}
	if i.Rl {
		both |= 1
	}
	behind := strings.NewReplacer(
		"{d}", fmt.Sprintf("x%d", i.Rd), "{a}", fmt.Sprintf("x%d", i.Rs1), "{b}", fmt.Sprintf("x%d", i.Rs2),
		"{i}", fmt.Sprintf("%d", i.Imm), "{p}", setTexts[i.Pred], "{s}", setTexts[i.Succ],
	).Replace(k.layout)
	return names[i.Op] + annotations[both] + behind
}

// forms are what the kinds' layouts match.
var forms = func() map[string]*regexp.Regexp {
	m := map[string]*regexp.Regexp{}
	for _, k := range kinds {
		form := regexp.QuoteMeta(k.layout)
		for _, letter := range []string{"d", "a", "b", "i", "p", "s"} {
			part := `x(?:0|[1-9][0-9]*)`
			switch letter {
			case "i":
				part = `0|-?[1-9][0-9]*`
			case "p", "s":
				part = `0|[iorw]+`
			}
			form = strings.ReplaceAll(form, `\{`+letter+`\}`, `(?P<`+letter+`>`+part+`)`)
		}
		m[k.layout] = regexp.MustCompile(`\A` + form + `\z`)
	}
	return m
}()

// told is the instruction that is right and whose text is s; false, if there is none.
func told(s string) (api.Inst, bool) {
	name, _, _ := strings.Cut(s, " ")
	i, ok := byName[name]
	if !ok {
		return api.Inst{}, false
	}
	k, _ := kindOf(i.Op)
	form := forms[k.layout]
	parts := form.FindStringSubmatch(s[len(name):])
	if parts == nil {
		return api.Inst{}, false
	}
	for at, letter := range form.SubexpNames() {
		if at > 0 && !give(&i, letter, parts[at]) {
			return api.Inst{}, false
		}
	}
	if !right(i) {
		return api.Inst{}, false
	}
	return i, true
}

// give gives an instruction a part.
func give(i *api.Inst, letter, part string) bool {
	n, e := strconv.ParseInt(strings.TrimPrefix(part, "x"), 10, 64)
	set := -1
	for k, s := range setTexts {
		if s == part {
			set = k
		}
	}
	switch letter {
	case "d":
		i.Rd = int(n)
	case "a":
		i.Rs1 = int(n)
	case "b":
		i.Rs2 = int(n)
	case "i":
		i.Imm = n
	case "p":
		i.Pred = set
		return set >= 0
	case "s":
		i.Succ = set
		return set >= 0
	}
	return e == nil
}

// checkRead holds one text against the model; of what it tells, that its text is that one.
func checkRead(t *testing.T, s string) {
	t.Helper()
	want, ok := told(s)
	i, e := show.Read(s)
	if !ok {
		if i != (api.Inst{}) || e != api.ErrForm {
			t.Fatalf("%q: %+v %v, not ErrForm", s, i, e)
		}
		return
	}
	if i != want || e != api.OK {
		t.Fatalf("%q: %+v %v, not %+v", s, i, e, want)
	}
	if again, e := show.Text(i); again != s || e != api.OK {
		t.Fatalf("%q: %+v, which is %q %v", s, i, again, e)
	}
}

// checkText holds one instruction against the model; of its text, that it is read as that one.
func checkText(t *testing.T, i api.Inst) {
	t.Helper()
	s, e := show.Text(i)
	if !right(i) {
		if s != "" || e != api.ErrArg {
			t.Fatalf("%+v: %q %v, not ErrArg", i, s, e)
		}
		return
	}
	if want := text(i); s != want || e != api.OK {
		t.Fatalf("%+v: %q %v, not %q", i, s, e, want)
	}
	if again, e := show.Read(s); again != i || e != api.OK {
		t.Fatalf("%+v: %q, which is %+v %v", i, s, again, e)
	}
}

// plain is an operation's instruction all of whose parts are 0, or as near to it as it may be.
func plain(op int) api.Inst {
	k, _ := kindOf(op)
	return api.Inst{Op: op, Pred: k.leastSet, Succ: k.leastSet}
}

// full is an operation's instruction all of whose parts are as great as may be.
func full(op int) api.Inst {
	k, _ := kindOf(op)
	return api.Inst{
		Op: op, Rd: k.mostRegister("d"), Rs1: k.mostRegister("a"), Rs2: k.mostRegister("b"), Imm: k.most,
		Aq: k.annotated, Rl: k.annotated, Pred: k.mostSet, Succ: k.mostSet,
	}
}

// immediates are such as are a kind's, and such as aren't: about its ends, about 0, of one bit, and those whose low bits alone are one's.
func (k kind) immediates() []int64 {
	l := []int64{math.MinInt64, math.MaxInt64}
	for d := range int64(9) {
		for _, at := range []int64{0, k.least, k.most, 2 * k.least, 2 * k.most, math.MinInt64, math.MaxInt64} {
			l = append(l, at+d, at-d, at+d*k.step, at-d*k.step)
		}
	}
	for s := range 64 {
		for _, at := range []int64{0, 1, k.step, k.least, k.most} {
			l = append(l, at+1<<s, at-1<<s)
		}
	}
	return l
}

// notOps are numbers of no operation.
func notOps() []int {
	l := []int{math.MinInt, math.MinInt + 1, math.MinInt32, math.MaxInt32, math.MaxInt - 1, math.MaxInt}
	for k := range 300 {
		l = append(l, -k, api.MaxOp+1+k)
	}
	for k := 8; k < 63; k++ {
		for _, op := range []int{0, api.LUI, api.JALR, api.SD, api.ADD, api.FENCE, api.MAXUD} {
			l = append(l, 1<<k|op, -1<<k|op) // whose low bits are those of an operation
		}
	}
	return l
}

// numbers are such as may stand for a register or a set, and such as may not, far ones whose low bits might among them.
func numbers() []int {
	l := []int{math.MinInt, math.MinInt + 1, math.MinInt + 3, math.MaxInt - 1, math.MaxInt}
	for k := range 140 {
		l = append(l, k, -k)
	}
	for k := 8; k < 63; k++ {
		l = append(l, 1<<k, 1<<k+3, 1<<k+31, -1<<k, -1<<k+3, -1<<k+31)
	}
	return l
}

// draw is a source of numbers that are as good as any, and the same each time.
type draw uint64

// of is one of n numbers, from 0 on.
func (d *draw) of(n int) int {
	*d = *d*6364136223846793005 + 1442695040888963407
	return int(uint64(*d) >> 33 % uint64(n))
}

// inst is an instruction that is often right, and else often wrong in one part alone.
func (d *draw) inst() api.Inst {
	op := 1 + d.of(api.MaxOp)
	k, _ := kindOf(op)
	i := api.Inst{
		Op: op, Rd: d.of(k.mostRegister("d") + 1), Rs1: d.of(k.mostRegister("a") + 1), Rs2: d.of(k.mostRegister("b") + 1),
		Imm: k.least + int64(d.of(int((k.most-k.least)/k.step)+1))*k.step,
		Aq:  k.annotated && d.of(2) == 0, Rl: k.annotated && d.of(2) == 0,
		Pred: k.leastSet + d.of(k.mostSet-k.leastSet+1), Succ: k.leastSet + d.of(k.mostSet-k.leastSet+1),
	}
	switch d.of(20) {
	case 0:
		i.Rd = d.of(40) - 4
	case 1:
		i.Rs1 = d.of(40) - 4
	case 2:
		i.Rs2 = d.of(40) - 4
	case 3:
		i.Imm = int64(d.of(1<<22) - 1<<21)
	case 4:
		i.Aq = true
	case 5:
		i.Rl = true
	case 6:
		i.Pred = d.of(20) - 2
	case 7:
		i.Succ = d.of(20) - 2
	case 8:
		i.Op = d.of(90) - 5
	}
	return i
}

// The kinds are all operations, each in one of them, and all operations have names and texts that are written down, annotated in each way where they may be: what the other tests lean on.
func TestModel(t *testing.T) {
	next := api.LUI
	for _, k := range kinds {
		if k.first != next || k.last < k.first {
			t.Errorf("%d to %d behind %d", k.first, k.last, next-1)
		}
		next = k.last + 1
	}
	if next != api.MaxOp+1 || len(names) != api.MaxOp || len(byName) != api.MaxOp+3*22 {
		t.Errorf("the last one is %d; %d names, %d with those that are annotated", next-1, len(names), len(byName))
	}
	for op := 1; op <= api.MaxOp; op++ {
		if !right(plain(op)) || !right(full(op)) {
			t.Errorf("%+v, %+v", plain(op), full(op))
		}
	}
	had := map[string]bool{}
	for _, c := range allWritten() {
		name, _, _ := strings.Cut(c.s, " ")
		had[name] = true
		if i, ok := told(c.s); i != c.i || !ok || text(c.i) != c.s {
			t.Errorf("%q: %+v %v, not %+v, which is %q", c.s, i, ok, c.i, text(c.i))
		}
	}
	if len(had) != len(byName) {
		t.Errorf("%d names of %d are written down", len(had), len(byName))
	}
}
