package asm_test

import (
	"fmt"
	"math"
	"slices"
	"strings"
	"testing"

	"undertow/api"
	"undertow/asm"
)

// P10.1: the chapter's example.
func TestExample(t *testing.T) {
	right(t, "loop:\naddi x1, x1, -1\nbne x1, x0, loop\nhalt", 12,
		[]byte{0x93, 0x80, 0xf0, 0xff, 0xe3, 0x9e, 0x00, 0xfe, 0x73, 0x00, 0x10, 0x00}, api.Label{Name: "loop"})
}

// P10.1: sizes that may be, at their edges, and such as may not be, whatever else is wrong.
func TestSizes(t *testing.T) {
	for _, size := range []int{0, 1, 2, 3, 4, 7, 512, 1023, 1024} {
		for _, source := range []string{"", "\n", "#", "a:\n.org 0"} {
			check(t, source, size)
			if got := assemble(source, size); got.e != api.OK || len(got.image) != size {
				t.Errorf("%q of %d: %d bytes, error %d", source, size, len(got.image), got.e)
			}
		}
	}
	for _, size := range []int{-1, -2, -1024, 1025, 1026, 2048, 1 << 32, 1<<32 + 4, math.MinInt, math.MaxInt} {
		for _, source := range []string{"", "nop", "x", "a:\na:", strings.Repeat("\n", 65537), strings.Repeat("\n", 65536)} {
			wrong(t, source, size, 0, api.ErrArg)
		}
	}
}

// P10.1: a source of as many bytes as may be, and of one more.
func TestLongSources(t *testing.T) {
	for _, line := range []string{"\n", "#", " ", " \n", "# nop\n", ".org 0\n", ".zero 0\n", "nop\n.org 0\n", ".zero 64\n.org 0\n", ".byte 1\n", "é\n"} {
		all := strings.Repeat(line, 65537/len(line)+1)
		for _, n := range []int{65534, 65535, 65536} {
			check(t, all[:n], 64)
		}
		for _, n := range []int{65537, len(all)} {
			wrong(t, (all + all)[:max(n, 65537)], 64, 0, api.ErrArg)
		}
	}
	wrong(t, strings.Repeat("\n", 65535)+"x", 0, 65536, api.ErrForm)
	wrong(t, "x"+strings.Repeat("\n", 65536), 0, 0, api.ErrArg)
	right(t, strings.Repeat("\n", 65532)+"halt", 4, []byte{0x73, 0, 0x10, 0})
	right(t, strings.Repeat(" ", 65532)+"halt", 4, []byte{0x73, 0, 0x10, 0})
	right(t, "halt"+strings.Repeat("#", 65532), 4, []byte{0x73, 0, 0x10, 0})
	wrong(t, strings.Repeat("x", 65536), 4, 1, api.ErrForm)
	wrong(t, ".byte "+strings.Repeat("1", 65530), 4, 1, api.ErrForm)
}

// P10.1: as many labels as a source may have, one of them twice at last.
func TestManyLabels(t *testing.T) {
	var source strings.Builder
	var labels []api.Label
	for k := 0; source.Len() < 65500; k++ {
		name := fmt.Sprintf("a%x", k)
		labels = append(labels, api.Label{Name: name, At: 0})
		source.WriteString(name + ":\n")
	}
	right(t, source.String(), 8, nil, labels...)
	right(t, source.String()+"j a0", 8, []byte{0x6f}, labels...)
	wrong(t, source.String()+"a0:", 8, len(labels)+1, api.ErrLabel)
	wrong(t, source.String()+labels[len(labels)-1].Name+":", 8, len(labels)+1, api.ErrLabel)
}

// P10.1: lines that are nothing, blanks, remarks; what stands around a line's words.
func TestAround(t *testing.T) {
	halt := []byte{0x73, 0, 0x10, 0}
	for _, source := range []string{
		"halt", "halt\n", "\nhalt", "\n\n\nhalt\n\n\n", " halt", "halt ", "   halt   ", "halt#", "halt #", "halt # halt", "halt#x", "halt##", "# nop\nhalt", "#\nhalt\n#", "   # x\nhalt", " \n  \n   \nhalt",
		"halt # a: \x00\xff\té", "halt#\r", "# one # two\nhalt # three # four", "#halt\nhalt", " # .org 99\nhalt", "halt\n   ", "halt\n#", "halt\n# x\n",
	} {
		right(t, source, 4, halt)
		check(t, source, 4)
	}
	right(t, " a: # here\n  .byte 1 #2\n b:#", 2, []byte{1}, api.Label{Name: "a"}, api.Label{Name: "b", At: 1})
	right(t, "bne x1, x2, a # back\na: #", 4, []byte{0x63, 0x92, 0x20, 0x00}, api.Label{Name: "a", At: 4})
	for _, source := range []string{
		"\thalt", "halt\t", "halt\r", "\rhalt", "\t", "\r", "\r\n", "\v", "\x00", "halt\x00", "\u00a0", "\u00a0halt", "halt;", "halt // x", "; halt", "// halt", "halt halt", "halt, halt", "halt nop", "Halt", "HALT", "ha lt", "h#alt", "ha", "halt.", ".halt", "halt x0", "halt 0",
	} {
		wrong(t, source, 4, 1, api.ErrForm)
		wrong(t, "\n\n"+source+"\nx", 4, 3, api.ErrForm)
		check(t, source, 4)
	}
}

// P10.1: lines are counted from 1 on, by their line feeds.
func TestLineNumbers(t *testing.T) {
	for n := range 40 {
		for _, ahead := range []string{"\n", "#\n", " \n", "nop # x\n", ".byte 1\n.zero 3\n"} {
			wrong(t, strings.Repeat(ahead, n)+"x\ny", 1024, n*strings.Count(ahead, "\n")+1, api.ErrForm)
			wrong(t, strings.Repeat(ahead, n)+"j nowhere\nj nowhere", 1024, n*strings.Count(ahead, "\n")+1, api.ErrLabel)
		}
	}
}

// P10.1: the instructions as they are written down, at the first place and behind others.
func TestInstructions(t *testing.T) {
	all := allWritten()
	for _, c := range all {
		right(t, c.s, 4, fourBytes(c.w))
		right(t, "  "+c.s+" # x", 8, fourBytes(c.w))
		right(t, ".org 1020\n"+c.s, 1024, append(make([]byte, 1020), fourBytes(c.w)...))
		wrong(t, c.s+",", 4, 1, api.ErrForm)
		wrong(t, c.s+" x", 4, 1, api.ErrForm)
		wrong(t, "y"+c.s, 4, 1, api.ErrForm)
		wrong(t, strings.ToUpper(c.s), 4, 1, api.ErrForm)
		if doubled := strings.Replace(c.s, " ", "  ", 1); doubled != c.s {
			wrong(t, doubled, 4, 1, api.ErrForm)
		}
	}
	for from := range len(all) {
		var source []string
		var image []byte
		for k := range 256 {
			c := all[(from+k)%len(all)]
			source, image = append(source, c.s), append(image, fourBytes(c.w)...)
		}
		right(t, strings.Join(source, "\n"), 1024, image)
		wrong(t, strings.Join(source, "\n"), 1023, 256, api.ErrRange)
	}
}

// P10.1: what is no instruction's text, numbers beyond an immediate among it.
func TestNoInstructions(t *testing.T) {
	for _, source := range []string{
		"x", "add", "add x1, x2", "add x1, x2, x3, x4", "add x1, x2, x32", "add x1,x2, x3", "add x1, x2 , x3", "add, x1, x2, x3", "add x1, x2, 3", "addi x1, x0, 2048", "addi x1, x0, -2049", "addi x1, x0, 0x10", "addi x1, x0, +1", "addi x1, x0, 01", "addi x1, x0, -0", "addi x1, x0, ",
		"lui x1, 1", "lui x1, 2147483648", "auipc x1, -2147487744", "slli x1, x1, 64", "slliw x1, x1, 32", "srai x1, x1, -1", "lw x1, 2048(x2)", "lw x1, (x2)", "lw x1, 4", "sw x1, -2049(x2)", "jalr x1, 8(x2)", "jalr x1, x2, 2048",
		"beq x1, x2, 4096", "beq x1, x2, -4098", "beq x1, x2, 1", "bne x1, x2, -1", "bltu x1, x2, 4095", "bgeu x1, 8", "beq x1, x2", "beq x1, x2, ", "jal x0, 1048576", "jal x0, -1048578", "jal x0, 1", "jal 8", "jal x0", "jal",
		"lr.w x1, x2", "lr.w x1, 0(x2)", "sc.w x1, (x2)", "amoadd x1, x2, (x3)", "lw.aq x1, 0(x2)", "fence", "fence rw", "fence wr, rw", "fence.tso x0", "ecall 0", "ebreak x1", "mv x1, x2", "ret", "beqz x1, 8", "unimp", "c.nop",
		"1", "0", "-1", "x1", ",", ".", "..", "()", "8330000f", ".text", ".org", ".align 4", ".asciz", ".Byte 1", ".quad 1", "org 0", "byte 1", ".short 1",
	} {
		wrong(t, source, 64, 1, api.ErrForm)
		check(t, source, 64)
	}
}

// P10.1: nop, halt, li and j, as they are written down.
func TestShortForms(t *testing.T) {
	right(t, "nop", 4, []byte{0x13, 0, 0, 0})
	right(t, "halt", 4, []byte{0x73, 0, 0x10, 0})
	right(t, "li x1, 2047", 4, []byte{0x93, 0x00, 0xf0, 0x7f})
	right(t, "li x31, -2048", 4, []byte{0x93, 0x0f, 0x00, 0x80})
	right(t, "li x0, 0", 4, []byte{0x13, 0x00, 0x00, 0x00})
	right(t, "li x5, -1", 4, []byte{0x93, 0x02, 0xf0, 0xff})
	right(t, "a:\nj a", 4, []byte{0x6f, 0, 0, 0}, api.Label{Name: "a"})
	right(t, "j a\na:", 4, []byte{0x6f, 0, 0x40, 0}, api.Label{Name: "a", At: 4})
	right(t, "a:\nnop\nj a", 8, []byte{0x13, 0, 0, 0, 0x6f, 0xf0, 0xdf, 0xff}, api.Label{Name: "a"})
	for r := range 40 {
		for n := -2200; n <= 2200; n += 3 {
			source := fmt.Sprintf("li x%d, %d", r, n)
			if r < 32 && -2048 <= n && n < 2048 {
				right(t, source, 4, fourBytes(uint32(0x13+r<<7)|uint32(n)<<20))
				continue
			}
			wrong(t, source, 4, 1, api.ErrForm)
		}
	}
	for _, source := range []string{
		"li x1, 2048", "li x1, -2049", "li x1, 4095", "li x1, 9223372036854775807", "li x1, -9223372036854775808", "li x1, 4294967296", "li x1, 9223372036854775808", "li x1, 18446744073709551617", "li x32, 1", "li x01, 1", "li x-1, 1", "li 1, 1", "li x1", "li x1,", "li x1, ", "li x1,1", "li x1 1", "li x1  1", "li x1,  1", "li  x1, 1", "li x1 , 1", "li x1, 1, 2", "li x1, x0, 1", "li x1, x2", "li x1, a", "li , 1", "li", "li a, 1", "li x1, 01", "li x1, -0", "li x1, +1", "li x1, 0x1", "li x1, 1(x2)", "Li x1, 1", "li.w x1, 1",
		"j", "j 8", "j 0", "j -4", "j a, a", "j  a", "j a b", "j x1, a", "j A", "j _a", "j 1a", "j abcdefghijklmnopq", "j a:", "j .", "J a", "j,a", "ja", "nop x", "nop 0", "nop nop", "nops", "no", "nop,", "halt 1",
	} {
		wrong(t, source+"\na:\nb:", 64, 1, api.ErrForm)
		check(t, source, 64)
	}
}

// P10.1: IsName's names name places, and are jumped to; no others do.
func TestLabels(t *testing.T) {
	at := func(name string, place int) api.Label { return api.Label{Name: name, At: place} }
	right(t, "a:", 0, nil, at("a", 0))
	right(t, "a:\nb:\na_b:\nz9:\n.org 3\nc:\n.org 1\nd:\n.byte 7\nabcdefghijklmnop:", 4, []byte{0, 7}, at("a", 0), at("b", 0), at("a_b", 0), at("z9", 0), at("c", 3), at("d", 1), at("abcdefghijklmnop", 2))
	right(t, "nop:\nx1:\nli:\nj:\norg:\nhalt:\nadd:\nj x1\nj j", 8, []byte{0x6f, 0, 0, 0, 0x6f, 0xf0, 0xdf, 0xff}, at("nop", 0), at("x1", 0), at("li", 0), at("j", 0), at("org", 0), at("halt", 0), at("add", 0))
	right(t, "beq x1, x2, x3\nx3:\nbgeu x31, x0, x31\nx31:", 8, []byte{0x63, 0x82, 0x20, 0, 0x63, 0xf2, 0x0f, 0}, at("x3", 4), at("x31", 8))
	right(t, "jal x1, x2\nx2:\nfence r, w\nw:", 8, []byte{0xef, 0, 0x40, 0, 0x0f, 0, 0x10, 0x02}, at("x2", 4), at("w", 8))
	right(t, "w:\nrw:\nfence rw, w", 4, []byte{0x0f, 0, 0x10, 0x03}, at("w", 0), at("rw", 0))
	right(t, ".org 1024\nend:", 1024, nil, at("end", 1024))
	for _, name := range []string{"", "A", "aB", "1", "1a", "_", "_a", "a.b", "a-b", "-1", ".a", "a a", "a:", "é", "aé", "abcdefghijklmnopq", "a\t", "a("} {
		wrong(t, name+":", 8, 1, api.ErrForm)
		wrong(t, "j "+name, 8, 1, api.ErrForm)
		wrong(t, "beq x1, x2, "+name, 8, 1, api.ErrForm)
		wrong(t, "jal x1, "+name, 8, 1, api.ErrForm)
	}
	for _, source := range []string{"a", "a :", "a: nop", "a:b:", "a:,", ":a", "a::", "a:\t", "nop a:"} {
		wrong(t, source, 8, 1, api.ErrForm)
	}
	wrong(t, "a:\na:", 8, 2, api.ErrLabel)
	wrong(t, "a:\nb:\n.org 4\n a: # again", 8, 4, api.ErrLabel)
	wrong(t, "j b\na:\n", 8, 1, api.ErrLabel)
	wrong(t, "a:\nj a\nj ab", 8, 3, api.ErrLabel)
	wrong(t, "ab:\nj a", 8, 2, api.ErrLabel)
}

// P10.1: branches and jumps to labels at every distance that there is in an image.
func TestDistances(t *testing.T) {
	for _, step := range []int{4, 60} {
		size := 17*step + 4
		for from := 0; from < size; from += step {
			for to := range size + 1 {
				source := fmt.Sprintf(".org %d\nl:\n.org %d\nbgeu x3, x17, l", to, from)
				check(t, source, size)
				check(t, fmt.Sprintf(".org %d\njal x9, l\n.org %d\nl:", from, to), size)
				if to%2 != 0 {
					wrong(t, source, size, 4, api.ErrRange)
				}
			}
		}
	}
	for third, name := range []string{"beq", "bne", "", "", "blt", "bge", "bltu", "bgeu"} {
		if name == "" {
			continue
		}
		f3 := byte(third << 4)
		right(t, name+" x1, x2, l\n.org 1024\nl:", 1024, []byte{0x63, 0x80 | f3, 0x20, 0x40}, api.Label{Name: "l", At: 1024})
		right(t, "l:\n.org 1020\n"+name+" x1, x2, l", 1024, append(make([]byte, 1020), 0xe3, 0x82|f3, 0x20, 0xc0), api.Label{Name: "l"})
		right(t, "l:\n"+name+" x0, x0, l", 4, []byte{0x63, f3, 0, 0}, api.Label{Name: "l"})
	}
	right(t, "jal x1, l\n.org 1024\nl:", 1024, []byte{0xef, 0, 0, 0x40}, api.Label{Name: "l", At: 1024})
	right(t, "l:\n.org 1020\njal x1, l", 1024, append(make([]byte, 1020), 0xef, 0xf0, 0x5f, 0xc0), api.Label{Name: "l"})
}

// P10.1: a label stands in place of a Branch's immediate or of JAL's, and of no other part.
func TestLabelsElsewhere(t *testing.T) {
	for _, source := range []string{
		"add x1, x2, a", "addi x1, x2, a", "slli x1, x2, a", "lui x1, a", "auipc x1, a", "jalr x1, x2, a", "jalr x1, a", "lw x1, a", "lw x1, a(x2)", "lw a, 0(x1)", "sw x1, a(x2)", "sw x1, a", "beq x1, a, 8", "beq a, x1, 8", "beq x1, a, a", "beq x1, a", "jal a, 8", "jal a", "jal a, a", "jal x1, x2, a", "beq x1, x2, x3, a", "beq x1, x2, a, 8", "beq x1, x2, a(x1)", "beq x1, x2,a", "beq x1, x2,  a", "beq  x1, x2, a", "beq x1, x32, a", "jal x32, a", "jal  x1, a", "bgt x1, x2, a", "beq.aq x1, x2, a", "jal.aq x1, a", "lr.w x1, a", "sc.w x1, x2, a", "amoadd.w x1, x2, a", "fence a", "fence r, a", "fence a, r", "ecall a", "fence.tso, a", "ebreak, a", "nop, a", ", a", "a", "a, a", "li x1, a", ".org a", ".byte a", ".zero a", ".word a",
	} {
		wrong(t, source+"\na:", 64, 1, api.ErrForm)
		check(t, source+"\na:", 64)
	}
}

// P10.1: with several labels, and jumps over one another, ahead and behind.
func TestJumps(t *testing.T) {
	source := `
start:              # hart 0
	again:`
	wrong(t, source, 64, 3, api.ErrForm)
	source = `
start:              # hart 0
  li x1, 3
again:
  addi x1, x1, -1
  beq x1, x0, out   # ahead
  j again
out:
  jal x5, start
  bltu x1, x5, far
  .dword -2
far:
`
	right(t, source, 40, slices.Concat(
		fourBytes(0x0030_0093), fourBytes(0xfff0_8093), fourBytes(0x0000_8463), fourBytes(0xff9f_f06f),
		fourBytes(0xff1f_f2ef), fourBytes(0x0050_e663), []byte{0xfe, 0xff, 0xff, 0xff, 0xff, 0xff, 0xff, 0xff},
	), api.Label{Name: "start"}, api.Label{Name: "again", At: 4}, api.Label{Name: "out", At: 16}, api.Label{Name: "far", At: 32})
}

// P10.1: what comes first where there are several errors, and its line.
func TestFirstError(t *testing.T) {
	for _, c := range []struct {
		source     string
		size, line int
		e          api.Errno
	}{
		{"x\ny", 8, 1, api.ErrForm},
		{"nop\nnop\nnop\nx", 8, 3, api.ErrRange},
		{"nop\nx\nnop\nnop", 8, 2, api.ErrForm},
		{".byte 1\nnop\nx", 8, 2, api.ErrAlign},
		{".byte 1\nx\nnop", 8, 2, api.ErrForm},
		{".byte 1\nadd x1", 8, 2, api.ErrForm},
		{".org 9\nx", 8, 1, api.ErrRange},
		{"x\n.org 9", 8, 1, api.ErrForm},
		{"a:\na:\nx", 8, 2, api.ErrLabel},
		{"a:\nx\na:", 8, 2, api.ErrForm},
		{"a:\n.org 9\na:", 8, 2, api.ErrRange},
		{"a:\na:\n.org 9", 8, 2, api.ErrLabel},
		{"a:\n.byte 1\nnop\na:", 8, 3, api.ErrAlign},
		{"a:\n.byte 1\na:\nnop", 8, 3, api.ErrLabel},
		{"j b\na:\na:", 8, 3, api.ErrLabel},
		{"j b\nx", 8, 2, api.ErrForm},
		{"j b\n.org 9", 8, 2, api.ErrRange},
		{"j b\n.byte 1\nnop", 8, 3, api.ErrAlign},
		{"j b\nj c\n.byte 1\nc:", 9, 1, api.ErrLabel},
		{"j c\nj b\n.byte 1\nc:", 9, 1, api.ErrRange},
		{"j b\nj c\n.byte 1\nb:\nc:", 9, 1, api.ErrRange},
		{"nop\nj b\n.byte 1\nb:", 9, 2, api.ErrRange},
		{"a:\nj a\nj b", 8, 3, api.ErrLabel},
		{".byte 1\nj b", 8, 2, api.ErrAlign},
		{".byte 1\nbeq x1, x2, b\nb:", 8, 2, api.ErrAlign},
		{".org 8\nj b", 8, 2, api.ErrRange},
		{".org 5\nnop", 8, 2, api.ErrAlign},
		{".org 7\nnop", 8, 2, api.ErrAlign},
		{".org 6\nhalt", 7, 2, api.ErrAlign},
		{".org 8\nnop", 8, 2, api.ErrRange},
		{".org 4\nnop", 7, 2, api.ErrRange},
		{".org 1\nli x1, 1", 2, 2, api.ErrAlign},
		{".org 2\nadd x1, x2, x3", 4, 2, api.ErrAlign},
		{".org 3\nj a\na:", 4, 2, api.ErrAlign},
		{"nop", 0, 1, api.ErrRange},
		{"nop", 3, 1, api.ErrRange},
		{".byte 1", 0, 1, api.ErrRange},
		{".half 1", 1, 1, api.ErrRange},
		{".word 1", 3, 1, api.ErrRange},
		{".dword 1", 7, 1, api.ErrRange},
		{".zero 8", 7, 1, api.ErrRange},
		{"j a", 0, 1, api.ErrRange},
	} {
		wrong(t, c.source, c.size, c.line, c.e)
		wrong(t, "\n# x\n"+c.source, c.size, c.line+2, c.e)
		check(t, c.source, c.size)
	}
}

// P10.1 and rules 4 and 6: answers are new memory, and the same again.
func TestMemory(t *testing.T) {
	source := "a:\nli x1, 5\nb:\nj a\n.zero 8\n"
	b, l, _, _ := asm.Assemble(source, 20)
	was := assemble(source, 20)
	for k := range b[:cap(b)] {
		b[:cap(b)][k] = 0xee
	}
	for k := range l[:cap(l)] {
		l[:cap(l)][k] = api.Label{Name: "x", At: -1}
	}
	if again := assemble(source, 20); !again.same(was) || was.e != api.OK || len(was.image) != 20 || len(was.labels) != 2 {
		t.Errorf("%+v, and then %+v", was, again)
	}
}
