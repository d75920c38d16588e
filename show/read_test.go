package show_test

import (
	"regexp"
	"strings"
	"testing"

	"undertow/api"
	"undertow/show"
)

// P9.2: what is written down as no instruction's text.
func TestReadWrong(t *testing.T) {
	for _, s := range []string{
		// nothing, and names that are none
		"", " ", "  ", "\n", "\x00", ",", "()", ", ", "x", "x1", "x1, x2, x3", "0", "none", "nop", "halt", "li x1, 7", "j 8", "ret", "mv x1, x2", "add.w x1, x2, x3", "fence.i", "fence.tsu", "lr x1, (x2)", "sc.b x1, x2, (x3)", "amoadd x1, x2, (x3)", "amosub.w x1, x2, (x3)", "lq x1, 0(x2)", "subi x1, x2, 3", ".word 0",
		// a name alone where parts are asked, and parts where none are
		"lui", "jal", "jalr", "beq", "lw", "sw", "addi", "add", "fence", "lr.w", "lr.w.aq", "sc.d", "amoadd.w", "amoadd.w.aqrl", "add ", "fence ", "ecall ", "ecall 0", "ecall x0", "ebreak x1, x2, x3", "ebreak ()", "fence.tso rw, rw", "fence.tso 0, 0", "fence.tso ", "ecall,", "ecall()",
		// too few and too many
		"lui x1", "lui 4096", "lui x1, x2, 4096", "lui x1, 4096, 4096", "jal 8", "jal x1", "jal x1, x2, 8", "jalr x1, 0", "jalr x1, x2", "jalr x1, 0(x2)", "jalr x1, x2, 0, 0", "beq x1, x2", "beq x1, 8", "beq x1, x2, x3", "beq x1, x2, 8, 8", "lw x1", "lw x1, 8", "lw x1, x2", "lw x1, x2, 8", "lw x1, (x2)", "lw x1, 8()", "lw x1, 8(x2)(x3)", "lw x1, 8(x2), 8", "sw x1, (x2)", "sw 8(x2)", "sw x1, 8, (x2)", "addi x1, 10", "addi x1, x0", "addi x1, x0, 10, 11", "addi x1, x0, x2", "add x1, x2", "add x1, x2, 3", "add x1, x2, x3, x4", "fence rw", "fence rw, w, w", "lr.w x1", "lr.w (x1)", "lr.w x1, x2, (x3)", "lr.w x1, 0(x2)", "sc.w x1, (x3)", "sc.w x1, x2, 0(x3)", "amoadd.d x1, (x3)", "amoadd.d x1, x2, x3, (x4)", "amoadd.d x1, x2, (x3), (x4)",
		// blanks, commas and brackets
		" addi x1, x0, 10", "addi x1, x0, 10 ", "addi  x1, x0, 10", "addi x1,  x0, 10", "addi x1 , x0, 10", "addi x1,x0, 10", "addi x1, x0,10", "addi x1, x0 10", "addi x1 x0, 10", "addi, x1, x0, 10", "addi x1,, x0, 10", "addi x1, , 10", "addi x1, x0, ", "addi , x0, 10", "addi x1, x0, 10,", "addi x1, x0, 10, ", "addi\tx1, x0, 10", "addi x1,\tx0, 10", "addi x1, x0, 10\n", "addi x1, x0, 10\r", "addi x1, x0, 10\x00", "\taddi x1, x0, 10", "addix1, x0, 10", "addi(x1, x0, 10)", "addi x1; x0; 10", "addi x1, x0, - 10", "addi x1, x 0, 10",
		"lw x5, -8 (x2)", "lw x5, -8( x2)", "lw x5, -8(x2 )", "lw x5, -8(x2) ", "lw x5,-8(x2)", "lw x5, -8(x2", "lw x5, -8x2)", "lw x5, -8)x2(", "lw x5, -8(x2))", "lw x5, -8((x2)", "lw x5, -8((x2))", "lw x5, -8[x2]", "lw x5, (-8)x2", "lw x5, x2(-8)", "lw (x5), -8(x2)", "sd x5 0(x31)", "sd x5, 0(x31),", "lr.w x1, x3", "lr.w x1, (x3", "lr.w x1, x3)", "lr.w x1,(x3)", "lr.w x1, ()", "lr.w x1, (x3) ", "lr.w x1 (x3)", "sc.w x1, x2, x3", "sc.w x1, (x2), (x3)", "sc.w x1, x2,(x3)", "sc.w x1, x2 (x3)", "sc.w x1, (x2, x3)", "fence  rw, w", "fence rw,w", "fence rw w", "fence rw, w ", "fence r w, w", "fence r,w, w", " ecall", "ecall\n",
		// registers and numbers
		"addi x01, x0, 1", "addi x00, x0, 1", "addi x32, x0, 1", "addi x-1, x0, 1", "addi x-0, x0, 1", "addi x+1, x0, 1", "addi x, x0, 1", "addi 1, x0, 1", "addi X1, x0, 1", "addi xx1, x0, 1", "addi x1x, x0, 1", "addi x1.0, x0, 1", "addi x100, x0, 1", "addi x256, x0, 1", "addi x4294967297, x0, 1", "addi x18446744073709551617, x0, 1", "addi ra, x0, 1", "addi x1, zero, 1", "add x1, x2, x32", "add x1, x32, x2", "lw x1, 0(x32)", "lw x1, 0(x02)", "sc.w x1, x32, (x3)", "sc.w x1, x2, (x32)", "addi x\u0661, x0, 1",
		"addi x1, x0, 010", "addi x1, x0, 00", "addi x1, x0, +1", "addi x1, x0, -0", "addi x1, x0, -", "addi x1, x0, --1", "addi x1, x0, -01", "addi x1, x0, 1-", "addi x1, x0, 0x10", "addi x1, x0, 1_0", "addi x1, x0, 1e1", "addi x1, x0, 1.0", "addi x1, x0, \u0661", "addi x1, x0, \uff11", "addi x1, x0, 18446744073709551617", "addi x1, x0, 4294967297", "addi x1, x0, -18446744073709551615", "lw x1, 00(x2)", "lw x1, -0(x2)", "lw x1, -(x2)", "lw x1, +8(x2)", "lw x1, 08(x2)",
		// capital letters
		"ADDI x1, x0, 10", "Addi x1, x0, 10", "addI x1, x0, 10", "ECALL", "Ecall", "fence RW, W", "fence rW, w", "fence.TSO", "lr.W x1, (x2)", "lr.w.AQ x1, (x2)", "lr.w.aqRL x1, (x2)",
		// sets
		"fence wr, w", "fence w, wr", "fence oi, w", "fence rwio, w", "fence iowr, w", "fence ww, w", "fence w, ww", "fence rrw, w", "fence iorww, w", "fence rwrw, w", "fence , w", "fence w, ", "fence 00, w", "fence 0w, w", "fence w0, w", "fence 3, 1", "fence 1, w", "fence -, w", "fence x, w", "fence rwx, w", "fence iorw iorw", "fence none, w", "fence rw", "fence rw, rw, rw",
		// annotations
		"add.aq x1, x2, x3", "addi.rl x1, x0, 10", "lw.aq x5, -8(x2)", "sw.rl x5, -8(x2)", "lui.aqrl x1, 4096", "jal.aq x1, 8", "jalr.rl x0, x1, 0", "beq.aq x1, x2, 8", "fence.aq rw, w", "fence.rl rw, w", "fence.tso.aq", "fence.tso.aqrl", "ecall.aq", "ebreak.rl", "lr.w.rlaq x1, (x2)", "sc.w.rlaq x1, x2, (x3)", "amoadd.w.rlaq x1, x2, (x3)", "lr.w.aq.rl x1, (x2)", "lr.w.aqaq x1, (x2)", "lr.w.aq.aq x1, (x2)", "lr.w.rl.aq x1, (x2)", "lr.w.aqrl.aqrl x1, (x2)", "lr.w. x1, (x2)", "lr.w.a x1, (x2)", "lr.w.q x1, (x2)", "lr.waq x1, (x2)", "lr.aq.w x1, (x2)", "lr.aq x1, (x2)", "amoadd.aq.w x1, x2, (x3)", "amoadd.aqrl x1, x2, (x3)", "lr.w .aq x1, (x2)", "lr.w.aq.x1, (x2)", ".aq", ".aqrl", ".aq x1, (x2)", ".", "..",
		// immediates out of range, or odd
		"addi x1, x0, 2048", "addi x1, x0, -2049", "addiw x1, x0, 2048", "jalr x1, x0, -2049", "lw x1, 2048(x2)", "ld x1, -2049(x2)", "sb x1, 2048(x2)", "sd x1, -2049(x2)", "slli x1, x2, 64", "slli x1, x2, -1", "srai x1, x2, 1024", "slliw x1, x2, 32", "sraiw x1, x2, -1", "beq x1, x2, 3", "beq x1, x2, -1", "bne x1, x2, 4096", "bge x1, x2, -4098", "blt x1, x2, 4095", "jal x1, 1", "jal x1, 1048576", "jal x1, -1048578", "jal x1, 1048575", "lui x1, 1", "lui x1, 4095", "lui x1, 2147483648", "lui x1, -2147487744", "auipc x1, -1", "auipc x1, 2147483647", "lui x1, 4294963200",
	} {
		if i, e := show.Read(s); i != (api.Inst{}) || e != api.ErrForm {
			t.Errorf("%q: %+v %v", s, i, e)
		}
		if _, ok := told(s); ok {
			t.Errorf("%q: the model tells of it", s)
		}
	}
}

// few are some of what is written down: of each annotated name one.
func few() []string {
	had, l := map[string]bool{}, []string{}
	for _, c := range allWritten() {
		if name, _, _ := strings.Cut(c.s, " "); !had[name] {
			had[name] = true
			l = append(l, c.s)
		}
	}
	return append(l, "fence 0, iorw", "fence iorw, 0", "addi x10, x0, 10", "lw x10, 100(x31)")
}

// edits are a text's letters: what is put into it and in place of its own ones.
func edits() []string {
	l := strings.Split("0 1 2 3 8 9 x X i o r w a q l d . , ( ) - + _ A \t \n \r \x00 \x7f \x80 \xff \u00a0 \u0660 \uff10 \u2212 :", " ")
	return append(l, " ", "", ", ", "x1", "0x", ".aq", ".rl", ".aqrl", "10")
}

// P9.2 and P9.4: texts with one letter left out, put in, turned, or two turned about, against the model.
func TestReadEdited(t *testing.T) {
	for _, s := range few() {
		for at := range len(s) + 1 {
			for _, c := range edits() {
				checkRead(t, s[:at]+c+s[at:])
				if at < len(s) {
					checkRead(t, s[:at]+c+s[at+1:])
				}
			}
			if at+1 < len(s) {
				checkRead(t, s[:at]+s[at+1:at+2]+s[at:at+1]+s[at+2:])
			}
			checkRead(t, s[:at])
			checkRead(t, s[at:])
		}
		checkRead(t, strings.ToUpper(s))
		checkRead(t, strings.ToUpper(s[:1])+s[1:])
		checkRead(t, s+s)
		checkRead(t, s+" "+s)
		checkRead(t, s+"\n"+s)
	}
}

// P9.2: each byte in each place of a text of each operation.
func TestReadBytes(t *testing.T) {
	for op := 1; op <= api.MaxOp; op++ {
		s := text(full(op))
		for at := range len(s) {
			for c := range 256 {
				checkRead(t, s[:at]+string([]byte{byte(c)})+s[at+1:])
			}
		}
		for c := range 256 {
			checkRead(t, s+string([]byte{byte(c)}))
			checkRead(t, string([]byte{byte(c)})+s)
		}
	}
}

// part is what stands in a text between marks; the first one of a text is its name.
var part = regexp.MustCompile(`[^ ,()]+`)

// each calls do with a text and another one in place of each of its parts.
func each(s, other string, do func(s string)) {
	for _, at := range part.FindAllStringIndex(s, -1) {
		do(s[:at[0]] + other + s[at[1]:])
	}
}

// P9.2: registers' texts, and others, in place of every part.
func TestReadRegisters(t *testing.T) {
	l := []string{"", "x", "x-1", "x-0", "x00", "x01", "x09", "x010", "x031", "x+1", "x 1", "x1 ", "X1", "r1", "a0", "sp", "zero", "0x1", "x0x1", "x1,", "x256", "x257", "x4294967296", "x4294967327", "x9223372036854775807", "x9223372036854775808", "x18446744073709551616", "x18446744073709551617", "x-9223372036854775808", "x" + strings.Repeat("0", 300) + "1", "x1" + strings.Repeat("0", 300)}
	for k := range 132 {
		l = append(l, "x"+decimal(int64(k)))
	}
	for _, s := range few() {
		for _, other := range l {
			each(s, other, func(s string) { checkRead(t, s) })
		}
	}
}

// P9.2: numbers' texts, and others, in place of every part, the ends of each format and those beyond them among them.
func TestReadNumbers(t *testing.T) {
	l := []string{"", "-", "--", "+", "+0", "+1", "-0", "00", "-00", "01", "-01", "007", "0x1", "0b1", "0o1", "1_0", "1e1", "1.", ".5", "--1", "1-", "9223372036854775808", "-9223372036854775809", "18446744073709551615", "18446744073709551616", "18446744073709551618", "18446744073709553664", "-18446744073709551616", "-18446744073709551614", "36893488147419103232", strings.Repeat("0", 300), strings.Repeat("9", 300), "-" + strings.Repeat("1", 300)}
	had := map[int64]bool{}
	for _, k := range kinds {
		for _, imm := range k.immediates() {
			if !had[imm] {
				had[imm] = true
				l = append(l, decimal(imm))
			}
		}
	}
	for _, s := range few() {
		for _, other := range l {
			each(s, other, func(s string) { checkRead(t, s) })
		}
	}
}

// P9.2: all short texts of a set's letters in place of both sets.
func TestReadSets(t *testing.T) {
	for _, s := range texts("iorw0", 5) {
		checkRead(t, "fence "+s+", "+s)
		checkRead(t, "fence "+s+", w")
		checkRead(t, "fence io, "+s)
	}
	for _, p := range setTexts {
		for _, s := range setTexts {
			checkRead(t, "fence "+p+", "+s)
			checkRead(t, "fence "+p+s)
			checkRead(t, "fence "+p+" "+s)
			checkRead(t, "fence.tso "+p+", "+s)
		}
	}
}

// P9.2: each name ahead of each operation's parts, and alone; with what isn't an annotation.
func TestReadNames(t *testing.T) {
	behind := map[string]bool{"": true, " ": true, " x1": true, " (x1)": true, " 8": true}
	for _, s := range few() {
		name, _, _ := strings.Cut(s, " ")
		behind[s[len(name):]] = true
	}
	l := []string{"", "x", "aq", "lr", "sc", "amo", ".w", ".d", "w", "d", "tso", ".tso", "fence.", "fencetso", "nop", "halt", "li", "j"}
	for name := range byName {
		l = append(l, name)
	}
	for _, name := range l {
		for _, more := range []string{"", ".aq", ".rl", ".aqrl", ".rlaq", ".aq.rl", ".rl.aq", ".aqaq", ".rlrl", ".aqrlaq", ".", ".a", ".aqr", "aq", "rl", "aqrl", ".AQ", ".w", ".d", ".tso", "i", "w", "u"} {
			for parts := range behind {
				checkRead(t, name+more+parts)
			}
		}
	}
}

// P9.2: texts with a part left out or there twice, and parts in another order.
func TestReadParts(t *testing.T) {
	for _, c := range allWritten() {
		name, behind, _ := strings.Cut(c.s, " ")
		l := strings.Split(behind, ", ")
		for at := range l {
			without := append(append([]string{}, l[:at]...), l[at+1:]...)
			twice := append(append(append([]string{}, l[:at+1]...), l[at]), l[at+1:]...)
			turned := append(append([]string{}, l[at:]...), l[:at]...)
			for _, parts := range [][]string{without, twice, turned} {
				checkRead(t, name+" "+strings.Join(parts, ", "))
			}
		}
		for _, between := range []string{",", " ", "", " , ", ",  ", "; ", ", , "} {
			checkRead(t, name+" "+strings.Join(l, between))
		}
		checkRead(t, name+behind)
		checkRead(t, name+"  "+behind)
		checkRead(t, name+" "+strings.NewReplacer("(", "", ")", "").Replace(behind))
		checkRead(t, name+" "+strings.NewReplacer("(", ", ", ")", "").Replace(behind))
		checkRead(t, name+" "+strings.NewReplacer("(", "[", ")", "]").Replace(behind))
		checkRead(t, name+" "+strings.NewReplacer("(", "((", ")", "))").Replace(behind))
	}
}

// P9.2: long texts are none's.
func TestReadLong(t *testing.T) {
	const n = 1 << 20
	for _, s := range []string{
		strings.Repeat("a", n), strings.Repeat(" ", n), strings.Repeat("addi", n), "addi" + strings.Repeat(" ", n), "addi " + strings.Repeat("x1, ", n), "addi x1, x0, " + strings.Repeat("1", n),
		"addi x" + strings.Repeat("1", n) + ", x0, 1", "addi x1, x0, -" + strings.Repeat("0", n), "fence " + strings.Repeat("iorw", n) + ", w", "lw x1, 0" + strings.Repeat("(x1)", n), "lr.w" + strings.Repeat(".aq", n) + " x1, (x2)",
		"ecall" + strings.Repeat(" ", n), "add x1, x2, x3" + strings.Repeat("\x00", n),
	} {
		if i, e := show.Read(s); i != (api.Inst{}) || e != api.ErrForm {
			t.Errorf("%.40q..: %+v %v", s, i, e)
		}
	}
}

// P9.2 and P9.4: texts put together of parts by chance, against the model.
func TestReadMany(t *testing.T) {
	all, d, rights := few(), draw(99), 0
	l := []string{"x1", "x31", "x32", "0", "-8", "8", "2048", "-2048", "4096", "rw", "w", "iorw", "(x2)", "8(x2)", "-8(x31)", "x1", "x9", "x10", "x01", "00", ""}
	for range 300_000 {
		name, _, _ := strings.Cut(all[d.of(len(all))], " ")
		parts := make([]string, d.of(5))
		for k := range parts {
			parts[k] = l[d.of(len(l))]
		}
		s := name
		if len(parts) > 0 {
			s += " " + strings.Join(parts, ", ")
		}
		checkRead(t, s)
		if _, ok := told(s); ok {
			rights++
		}
	}
	if rights < 1_000 {
		t.Errorf("%d right ones", rights)
	}
}

// Rule 6: the same text tells the same again, whatever was read between.
func TestReadAgain(t *testing.T) {
	all := few()
	for k, s := range all {
		i, e := show.Read(s)
		show.Read(all[len(all)-1-k])
		show.Read("addi x1, x0, ")
		if again, f := show.Read(s); again != i || f != e {
			t.Errorf("%q: %+v %v, and %+v %v", s, i, e, again, f)
		}
	}
}
