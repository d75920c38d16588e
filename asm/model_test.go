package asm_test

import (
	"math/big"
	"regexp"
	"slices"
	"strconv"
	"strings"
	"testing"

	"undertow/api"
	"undertow/asm"
	"undertow/encode"
	"undertow/show"
)

// made is all that comes of a source.
type made struct {
	image  []byte
	labels []api.Label
	line   int
	e      api.Errno
}

// assemble is what Assemble makes of a source.
func assemble(source string, size int) made {
	b, l, n, e := asm.Assemble(source, size)
	return made{b, l, n, e}
}

// same says whether two are one, nil lists and empty ones too.
func (m made) same(o made) bool {
	return slices.Equal(m.image, o.image) && slices.Equal(m.labels, o.labels) && m.line == o.line && m.e == o.e
}

// What the model tells lines by.
var (
	labelForm   = regexp.MustCompile(`\A([a-z][a-z0-9_]{0,15}):\z`)
	nameForm    = regexp.MustCompile(`\A[a-z][a-z0-9_]{0,15}\z`)
	numberForm  = regexp.MustCompile(`\A\.(org|byte|half|word|dword|zero) (0|-?[1-9][0-9]*)\z`)
	liForm      = regexp.MustCompile(`\Ali x(0|[1-9][0-9]*), (0|-?[1-9][0-9]*)\z`)
	jumpForm    = regexp.MustCompile(`\Aj ([a-z][a-z0-9_]{0,15})\z`)
	jalForm     = regexp.MustCompile(`\Ajal x(0|[1-9][0-9]*), ([a-z][a-z0-9_]{0,15})\z`)
	branchForm  = regexp.MustCompile(`\A(beq|bne|blt|bge|bltu|bgeu) x(0|[1-9][0-9]*), x(0|[1-9][0-9]*), ([a-z][a-z0-9_]{0,15})\z`)
	branchThird = map[string]uint32{"beq": 0, "bne": 1, "blt": 4, "bge": 5, "bltu": 6, "bgeu": 7}
)

// A step is what the model knows of a line: what it puts, made for a place from the labels' places, and what else it is.
type step struct {
	label  string
	moves  bool
	n      *big.Int // where to, or how many bytes are put
	isInst bool
	goal   string
	make   func(distance int) ([]byte, bool)
}

// stepOf is what the model makes of a line; false, if it is none of those that may be.
func stepOf(line string) (step, bool) {
	if line == "" {
		return plainStep(nil), true
	}
	if m := labelForm.FindStringSubmatch(line); m != nil {
		s := plainStep(nil)
		s.label = m[1]
		return s, true
	}
	if m := numberForm.FindStringSubmatch(line); m != nil {
		return numberStep(m[1], m[2])
	}
	if m := liForm.FindStringSubmatch(line); m != nil {
		r, _ := new(big.Int).SetString(m[1], 10)
		n, _ := new(big.Int).SetString(m[2], 10)
		ok := r.Cmp(big.NewInt(31)) <= 0 && n.CmpAbs(big.NewInt(2048)) <= 0 && n.Cmp(big.NewInt(2048)) != 0
		return instStep(0x13 | uint32(r.Int64())<<7 | uint32(n.Int64())<<20), ok
	}
	switch line {
	case "nop":
		return instStep(0x13), true
	case "halt":
		return instStep(0x0010_0073), true
	}
	if i, e := show.Read(line); e == api.OK {
		w, _ := encode.Encode(i)
		return instStep(w), true
	}
	return goalStep(line)
}

// goalStep is that of an instruction with a label.
func goalStep(line string) (step, bool) {
	if m := jumpForm.FindStringSubmatch(line); m != nil {
		return jalStep(0, m[1]), true
	}
	if m := jalForm.FindStringSubmatch(line); m != nil {
		r, e := strconv.Atoi(m[1])
		return jalStep(r, m[2]), e == nil && r < 32
	}
	if m := branchForm.FindStringSubmatch(line); m != nil {
		a, e := strconv.Atoi(m[2])
		b, f := strconv.Atoi(m[3])
		return branchStep(branchThird[m[1]], a, b, m[4]), e == nil && f == nil && a < 32 && b < 32
	}
	return step{}, false
}

// plainStep puts some bytes.
func plainStep(b []byte) step {
	return step{n: big.NewInt(int64(len(b))), make: func(int) ([]byte, bool) { return b, true }}
}

// instStep puts an instruction's word.
func instStep(w uint32) step {
	s := plainStep(fourBytes(w))
	s.isInst = true
	return s
}

// fourBytes are a word's.
func fourBytes(w uint32) []byte {
	return []byte{byte(w), byte(w >> 8), byte(w >> 16), byte(w >> 24)}
}

// numberStep is that of a word with a number behind it.
func numberStep(word, text string) (step, bool) {
	n, _ := new(big.Int).SetString(text, 10)
	if !n.IsInt64() {
		return step{}, false
	}
	bytes := func(count int) (step, bool) {
		var b []byte
		low := new(big.Int).And(n, big.NewInt(-1).Sub(new(big.Int).Lsh(big.NewInt(1), 64), big.NewInt(1)))
		for k := range count {
			b = append(b, byte(new(big.Int).Rsh(low, uint(8*k)).Uint64()&0xff))
		}
		return plainStep(b), true
	}
	switch word {
	case "byte":
		return bytes(1)
	case "half":
		return bytes(2)
	case "word":
		return bytes(4)
	case "dword":
		return bytes(8)
	case "zero":
		return step{n: n, make: func(int) ([]byte, bool) { return make([]byte, n.Int64()), true }}, n.Sign() >= 0
	}
	return step{moves: true, n: n, make: func(int) ([]byte, bool) { return nil, true }}, true
}

// jalStep is that of a jump to a label.
func jalStep(rd int, goal string) step {
	return step{n: big.NewInt(4), isInst: true, goal: goal, make: func(d int) ([]byte, bool) {
		w := 0x6f | uint32(rd)<<7
		w |= uint32(d>>20&1)<<31 | uint32(d>>1&0x3ff)<<21 | uint32(d>>11&1)<<20 | uint32(d>>12&0xff)<<12
		return fourBytes(w), d%2 == 0 && -1<<20 <= d && d < 1<<20
	}}
}

// branchStep is that of a branch to a label.
func branchStep(third uint32, a, b int, goal string) step {
	return step{n: big.NewInt(4), isInst: true, goal: goal, make: func(d int) ([]byte, bool) {
		w := 0x63 | third<<12 | uint32(a)<<15 | uint32(b)<<20
		w |= uint32(d>>12&1)<<31 | uint32(d>>5&0x3f)<<25 | uint32(d>>1&0xf)<<8 | uint32(d>>11&1)<<7
		return fourBytes(w), d%2 == 0 && -4096 <= d && d < 4096
	}}
}

// model is what comes of a source as the chapter says.
func model(source string, size int) made {
	if size < 0 || size > 1024 || len(source) > 65536 {
		return made{e: api.ErrArg}
	}
	var steps []step
	var places []int
	var labels []api.Label
	place := 0
	for k, line := range strings.Split(source, "\n") {
		s, ok := stepOf(strings.Trim(regexp.MustCompile(`#.*`).ReplaceAllString(line, ""), " "))
		isThere := slices.ContainsFunc(labels, func(l api.Label) bool { return l.Name == s.label })
		end := new(big.Int)
		if ok && s.moves {
			end.Set(s.n)
		} else if ok {
			end.Add(big.NewInt(int64(place)), s.n)
		}
		switch {
		case !ok:
			return made{line: k + 1, e: api.ErrForm}
		case s.isInst && place%4 != 0:
			return made{line: k + 1, e: api.ErrAlign}
		case end.Sign() < 0 || end.Cmp(big.NewInt(int64(size))) > 0:
			return made{line: k + 1, e: api.ErrRange}
		case s.label != "" && isThere:
			return made{line: k + 1, e: api.ErrLabel}
		case s.label != "":
			labels = append(labels, api.Label{Name: s.label, At: place})
		}
		steps, places = append(steps, s), append(places, place)
		place = int(end.Int64())
	}
	return put(steps, places, labels, size)
}

// put is what comes of a source's lines that have no error by themselves.
func put(steps []step, places []int, labels []api.Label, size int) made {
	image := make([]byte, size)
	for k, s := range steps {
		at := slices.IndexFunc(labels, func(l api.Label) bool { return l.Name == s.goal })
		if s.goal != "" && at < 0 {
			return made{line: k + 1, e: api.ErrLabel}
		}
		distance := 0
		if s.goal != "" {
			distance = labels[at].At - places[k]
		}
		b, ok := s.make(distance)
		if !ok {
			return made{line: k + 1, e: api.ErrRange}
		}
		for j, c := range b {
			image[places[k]+j] = c
		}
	}
	return made{image: image, labels: labels}
}

// check holds what comes of a source against the model.
func check(t *testing.T, source string, size int) {
	t.Helper()
	if got, want := assemble(source, size), model(source, size); !got.same(want) {
		t.Errorf("%.200q of %d: %x %v line %d error %d, not %x %v line %d error %d", source, size, got.image, got.labels, got.line, got.e, want.image, want.labels, want.line, want.e)
	}
}

// wrong holds that a source has an error, of a line.
func wrong(t *testing.T, source string, size, line int, e api.Errno) {
	t.Helper()
	if got := assemble(source, size); !got.same(made{line: line, e: e}) {
		t.Errorf("%.200q of %d: %x %v line %d error %d, not line %d error %d", source, size, got.image, got.labels, got.line, got.e, line, e)
	}
}

// right holds that an image, and labels, come of a source; bytes behind those that are given are 0.
func right(t *testing.T, source string, size int, image []byte, labels ...api.Label) {
	t.Helper()
	want := append(slices.Clone(image), make([]byte, size-len(image))...)
	if got := assemble(source, size); !got.same(made{image: want, labels: labels}) {
		t.Errorf("%.200q of %d: %x %v line %d error %d, not %x %v", source, size, got.image, got.labels, got.line, got.e, want, labels)
	}
}

// draw is a source of numbers that are as good as any, and the same each time.
type draw uint64

// of is one of n numbers, from 0 on.
func (d *draw) of(n int) int {
	*d = *d*6364136223846793005 + 1442695040888963407
	return int(uint64(*d) >> 33 % uint64(n))
}

// among is one of some texts.
func (d *draw) among(l ...string) string { return l[d.of(len(l))] }
