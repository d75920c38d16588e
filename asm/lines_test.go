package asm_test

import (
	"fmt"
	"slices"
	"strings"
	"testing"

	"undertow/api"
	"undertow/asm"
	"undertow/decode"
	"undertow/encode"
	"undertow/show"
)

// line is a word's line.
func line(w uint32) string {
	i, e := decode.Decode(w)
	own, _ := encode.Encode(i)
	if e != api.OK || own != w {
		return fmt.Sprintf(".word %d", w)
	}
	s, _ := show.Text(i)
	return s
}

// checkLines holds the lines of some bytes, and what they assemble to.
func checkLines(t *testing.T, b []byte, want []string) {
	t.Helper()
	was := slices.Clone(b)
	l := asm.Lines(b)
	if !slices.Equal(l, want) {
		t.Errorf("%x: %q, not %q", b, l, want)
	}
	if len(b) <= 1024 {
		right(t, strings.Join(l, "\n"), len(b), b)
	}
	if !slices.Equal(b, was) {
		t.Errorf("%x was %x", b, was)
	}
}

// P10.2, P10.3: as they are written down.
func TestLinesWrittenDown(t *testing.T) {
	for _, c := range []struct {
		b []byte
		l []string
	}{
		{nil, nil},
		{[]byte{}, nil},
		{[]byte{0}, []string{".byte 0"}},
		{[]byte{255}, []string{".byte 255"}},
		{[]byte{1, 128}, []string{".byte 1", ".byte 128"}},
		{[]byte{0x73, 0, 0x10}, []string{".byte 115", ".byte 0", ".byte 16"}},
		{[]byte{0x73, 0, 0x10, 0}, []string{"ebreak"}},
		{[]byte{0x13, 0, 0, 0}, []string{"addi x0, x0, 0"}},
		{[]byte{0, 0, 0, 0}, []string{".word 0"}},
		{[]byte{1, 2, 3, 4}, []string{".word 67305985"}},
		{[]byte{255, 255, 255, 255}, []string{".word 4294967295"}},
		{[]byte{0, 0, 0, 128}, []string{".word 2147483648"}},
		{[]byte{0x6f, 0, 0x40, 0, 0x73, 0, 0, 0, 7}, []string{"jal x0, 4", "ecall", ".byte 7"}},
		{[]byte{0, 0, 0, 0, 0xe3, 0x9e, 0x00, 0xfe, 1, 0}, []string{".word 0", "bne x1, x0, -4", ".byte 1", ".byte 0"}},
		{[]byte{1, 0x73, 0, 0x10, 0, 2, 3}, []string{".word 268464897", ".byte 0", ".byte 2", ".byte 3"}},
		{[]byte{0x0f, 0, 0x30, 0x03, 0x0f, 0, 0x30, 0x83, 0x0f, 0, 0, 0}, []string{"fence rw, rw", "fence.tso", "fence 0, 0"}},
		{[]byte{0x8f, 0, 0x30, 0x03, 0x0f, 0x80, 0x30, 0x03, 0x0f, 0, 0x30, 0x13}, []string{".word 53477519", ".word 53510159", ".word 321912847"}},
		{[]byte{0x8f, 0, 0x30, 0x83, 0x0f, 0x80, 0x30, 0x83, 0x0f, 0x10, 0, 0}, []string{".word 2200961167", ".word 2200993807", ".word 4111"}},
	} {
		checkLines(t, c.b, c.l)
	}
}

// P10.2, P10.3: words of every operation, alone, and behind one another with up to three bytes behind them.
func TestLinesOfInstructions(t *testing.T) {
	all := allWritten()
	had := map[int]bool{}
	for _, c := range all {
		i, _ := show.Read(c.s)
		had[i.Op] = true
		checkLines(t, fourBytes(c.w), []string{c.s})
	}
	if len(had) != api.MaxOp {
		t.Errorf("%d operations", len(had))
	}
	var b []byte
	var l []string
	for k, c := range all {
		b, l = append(b, fourBytes(c.w)...), append(l, c.s)
		checkLines(t, append(slices.Clone(b), 115, 0, 16)[:len(b)+k%4], append(slices.Clone(l), ".byte 115", ".byte 0", ".byte 16")[:len(l)+k%4])
	}
}

// P10.2, P10.3: words of every operation with each bit turned, that are another one's, none's, or another one than layer 7's.
func TestLinesOfTurnedBits(t *testing.T) {
	plain, words, others := 0, 0, 0
	for _, c := range allWritten() {
		for bit := range 32 {
			w := c.w ^ 1<<bit
			want := line(w)
			checkLines(t, fourBytes(w), []string{want})
			if _, e := decode.Decode(w); strings.HasPrefix(want, ".word ") && e == api.OK {
				others++
			} else if e == api.OK {
				plain++
			} else {
				words++
			}
		}
	}
	if plain == 0 || words == 0 || others == 0 {
		t.Errorf("%d instructions, %d words of none, %d that aren't layer 7's", plain, words, others)
	}
}

// P10.2: fences with every bit that counts as 0.
func TestLinesOfFences(t *testing.T) {
	for _, w := range []uint32{0x0000_000f, 0x0330_000f, 0x0ff0_000f, 0x8330_000f, 0x0310_000f} {
		for _, ignored := range []uint32{1 << 7, 1 << 11, 31 << 7, 1 << 15, 1 << 19, 31 << 15, 1<<7 | 1<<15} {
			checkLines(t, fourBytes(w|ignored), []string{fmt.Sprintf(".word %d", w|ignored)})
		}
		for high := uint32(1); high < 16; high++ {
			if other := w ^ high<<28; other != 0x8330_000f && other>>28 != 0 {
				checkLines(t, fourBytes(other), []string{fmt.Sprintf(".word %d", other)})
			}
		}
	}
}

// P10.2, P10.3: many words, as good as any, and such as are nearly an instruction's.
func TestLinesOfMany(t *testing.T) {
	all := allWritten()
	d := draw(10)
	for range 400 {
		var b []byte
		var l []string
		for range d.of(257) {
			w := uint32(d.of(1<<16))<<16 | uint32(d.of(1<<16))
			switch d.of(4) {
			case 0:
				w = all[d.of(len(all))].w
			case 1:
				w = w&^0x7f | all[d.of(len(all))].w&0x7f
			case 2:
				w = all[d.of(len(all))].w ^ 1<<d.of(32)
			}
			b, l = append(b, fourBytes(w)...), append(l, line(w))
		}
		for range min(d.of(4), 1024-len(b)) {
			c := d.of(256)
			b, l = append(b, byte(c)), append(l, fmt.Sprintf(".byte %d", c))
		}
		checkLines(t, b, l)
	}
}

// P10.2: more bytes than a memory has.
func TestLinesLong(t *testing.T) {
	for _, n := range []int{1025, 4096, 65537, 1<<20 + 3} {
		l := asm.Lines(slices.Repeat([]byte{0x73, 0, 0x10, 0, 9, 8, 7, 6}, n/8+1)[:n])
		if len(l) != n/4+n%4 || l[0] != "ebreak" || l[1] != ".word 101124105" || l[n/4-1] != []string{".word 101124105", "ebreak"}[n/4%2] {
			t.Errorf("%d bytes: %d lines", n, len(l))
		}
	}
}

// P10.2 and rules 4 and 6: bytes are neither changed nor kept, their spare room included; answers are new memory.
func TestLinesMemory(t *testing.T) {
	room := slices.Repeat([]byte{0x73, 0, 0x10, 0}, 6)
	was := slices.Clone(room)
	want := []string{"ebreak", "ebreak", ".byte 115", ".byte 0"}
	l, m := asm.Lines(room[:10]), asm.Lines(room[:10])
	for k := range l[:cap(l)] {
		l[:cap(l)][k] = "x"
	}
	if !slices.Equal(room, was) || !slices.Equal(m, want) {
		t.Errorf("%x was %x; %q", room, was, m)
	}
	clear(room)
	if !slices.Equal(m, want) {
		t.Errorf("%q have changed with their bytes", m)
	}
}
