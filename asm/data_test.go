package asm_test

import (
	"bytes"
	"fmt"
	"math"
	"strconv"
	"testing"

	"undertow/api"
)

// widths are how many bytes of a number stand behind a word.
var widths = map[string]int{".byte": 1, ".half": 2, ".word": 4, ".dword": 8}

// numbers are some about every power of two, below 0 and above.
func numbers() []int64 {
	l := []int64{0, 258, -258, 0x0102030405060708, -0x0102030405060708, math.MinInt64, math.MinInt64 + 1, math.MaxInt64, math.MaxInt64 - 1}
	for k := range 63 {
		l = append(l, 1<<k-1, 1<<k, 1<<k+1, -1<<k, -1<<k-1, -1<<k+1)
	}
	return l
}

// P10.1: numbers of each width, as they are written down.
func TestDataWrittenDown(t *testing.T) {
	for _, c := range []struct {
		source string
		b      []byte
	}{
		{".byte 0", []byte{0}}, {".byte 255", []byte{255}}, {".byte 256", []byte{0}}, {".byte -1", []byte{255}}, {".byte -128", []byte{128}}, {".byte -257", []byte{255}}, {".byte 4660", []byte{0x34}},
		{".half 258", []byte{2, 1}}, {".half 65535", []byte{255, 255}}, {".half 65536", []byte{0, 0}}, {".half -2", []byte{254, 255}}, {".half 66051", []byte{3, 2}},
		{".word 16909060", []byte{4, 3, 2, 1}}, {".word 4294967295", []byte{255, 255, 255, 255}}, {".word -2147483648", []byte{0, 0, 0, 128}}, {".word 4294967297", []byte{1, 0, 0, 0}}, {".word -9223372036854775808", []byte{0, 0, 0, 0}},
		{".dword 72623859790382856", []byte{8, 7, 6, 5, 4, 3, 2, 1}}, {".dword -1", []byte{255, 255, 255, 255, 255, 255, 255, 255}}, {".dword 9223372036854775807", []byte{255, 255, 255, 255, 255, 255, 255, 127}}, {".dword -9223372036854775808", []byte{0, 0, 0, 0, 0, 0, 0, 128}}, {".dword -2", []byte{254, 255, 255, 255, 255, 255, 255, 255}},
		{".zero 0", nil}, {".zero 3", []byte{0, 0, 0}},
		{".byte 1\n.byte 2", []byte{1, 2}}, {".byte 1\n.half 770\n.word 117835012\n.dword 8\n.byte 9", []byte{1, 2, 3, 4, 5, 6, 7, 8, 0, 0, 0, 0, 0, 0, 0, 9}}, {".byte 1\n.zero 2\n.byte 2", []byte{1, 0, 0, 2}},
		{".byte 1\n.zero 3\nhalt", []byte{1, 0, 0, 0, 0x73, 0, 0x10, 0}}, {".half 1\n.half 2\nhalt\n.byte 3", []byte{1, 0, 2, 0, 0x73, 0, 0x10, 0, 3}},
	} {
		right(t, c.source, len(c.b), c.b)
		right(t, c.source, 1024, c.b)
		right(t, " "+c.source+" # x\n\n", 20, c.b)
		check(t, c.source, 20)
	}
}

// P10.1: numbers of each width at every place of a small image, and what stands behind them.
func TestData(t *testing.T) {
	for first, n := range widths {
		for _, x := range numbers() {
			var b []byte
			for k := range n {
				b = append(b, byte(x>>(8*k)))
			}
			source := first + " " + strconv.FormatInt(x, 10)
			right(t, source, n, b)
			right(t, source+"\n.byte 238", n+1, append(b, 238))
		}
		for place := range 24 {
			source := fmt.Sprintf(".org %d\n%s -3\nbehind:", place, first)
			if place > 16 {
				wrong(t, source, 16, 1, api.ErrRange)
				continue
			}
			if place+n > 16 {
				wrong(t, source, 16, 2, api.ErrRange)
				continue
			}
			got := assemble(source, 16)
			if got.e != api.OK || got.image[place] != 0xfd || bytes.Count(got.image, []byte{0xff}) != n-1 || got.labels[0].At != place+n {
				t.Errorf("%q: %+v", source, got)
			}
			check(t, source, 16)
		}
	}
}

// P10.1: what is no number's text, and what doesn't stand one blank behind its word.
func TestNoNumbers(t *testing.T) {
	for _, first := range []string{".org", ".byte", ".half", ".word", ".dword", ".zero"} {
		for _, behind := range []string{
			"", " ", "1", "0", "-1", "  1", "   0", "\t1", " \t1", " 01", " 00", " -0", " +1", " 0x1", " 0b1", " 1_0", " 1.0", " 1e1", " -", " --1", " - 1", " a", " x1", " 1a", " a1", " 1,", " 1, 2", " 1 2", " 1:", " ,1", ", 1", " (1)", " '1'", " \"1\"", " ٣", " 1\t", " 1\r", " 1;", ":", ".1", " .1",
			" 9223372036854775808", " -9223372036854775809", " 18446744073709551615", " 18446744073709551616", " 18446744073709551617", " 99999999999999999999999999", " -99999999999999999999999999", " 36893488147419103233",
		} {
			wrong(t, first+behind, 16, 1, api.ErrForm)
			wrong(t, "nop\n"+first+behind+" # 1\nx", 16, 2, api.ErrForm)
			check(t, first+behind, 16)
		}
	}
}

// P10.1: .org forwards, backwards, where it is, to the size itself, and beyond it.
func TestOrg(t *testing.T) {
	for _, size := range []int{0, 1, 4, 5, 63, 64, 1023, 1024} {
		for n := -3; n <= size+3; n++ {
			source := fmt.Sprintf("a:\n.org %d\nb:", n)
			if n < 0 || n > size {
				wrong(t, source, size, 2, api.ErrRange)
				continue
			}
			right(t, source, size, nil, api.Label{Name: "a"}, api.Label{Name: "b", At: n})
		}
		for _, x := range numbers() {
			check(t, fmt.Sprintf(".org %d", x), size)
			if x < 0 || x > int64(size) {
				wrong(t, fmt.Sprintf(".org %d\nx", x), size, 1, api.ErrRange)
			}
		}
	}
	right(t, ".org 6\n.byte 1\n.org 2\n.byte 2\n.org 3\n.byte 3\n.org 8\n.org 0\n.byte 4", 8, []byte{4, 0, 2, 3, 0, 0, 1, 0})
	right(t, ".org 8\n.org 4\nhalt\n.org 8", 8, []byte{0, 0, 0, 0, 0x73, 0, 0x10, 0})
	wrong(t, ".org 8\n.byte 1", 8, 2, api.ErrRange)
	wrong(t, ".org 8\n.org 9", 8, 2, api.ErrRange)
}

// P10.1: .zero of none, of all, of more than there are, and of less than none.
func TestZero(t *testing.T) {
	for _, size := range []int{0, 1, 4, 64, 1023, 1024} {
		for place := 0; place <= size; place += max(1, size/16) {
			for _, n := range []int{0, 1, 2, size - place - 1, size - place, size - place + 1, size, size + 1, -1, -2} {
				source := fmt.Sprintf(".org %d\n.zero %d\na:", place, n)
				switch {
				case n < 0:
					wrong(t, source, size, 2, api.ErrForm)
				case place+n > size:
					wrong(t, source, size, 2, api.ErrRange)
				default:
					right(t, source, size, nil, api.Label{Name: "a", At: place + n})
				}
			}
		}
		for _, x := range numbers() {
			source := fmt.Sprintf(".org %d\n.zero %d", size, x)
			check(t, source, size)
			switch {
			case x < 0:
				wrong(t, source, size, 2, api.ErrForm)
			case x > 0:
				wrong(t, source, size, 2, api.ErrRange)
			}
		}
	}
}

// P10.1: what is put later stands in place of what was there, whether labels are in it or not.
func TestOver(t *testing.T) {
	a := api.Label{Name: "a"}
	for _, c := range []struct {
		source string
		b      []byte
		l      []api.Label
	}{
		{".dword -1\n.org 2\n.half 4660\n.org 3\n.byte 5", []byte{255, 255, 0x34, 5, 255, 255, 255, 255}, nil},
		{".dword -1\n.org 1\n.zero 5", []byte{255, 0, 0, 0, 0, 0, 255, 255}, nil},
		{".dword -1\n.org 1\n.zero 0", []byte{255, 255, 255, 255, 255, 255, 255, 255}, nil},
		{".dword -1\n.org 4\nhalt", []byte{255, 255, 255, 255, 0x73, 0, 0x10, 0}, nil},
		{"halt\n.org 1\n.byte 9", []byte{0x73, 9, 0x10, 0, 0, 0, 0, 0}, nil},
		{"halt\n.org 0\nnop\n.org 4\nnop\n.org 4\nhalt", []byte{0x13, 0, 0, 0, 0x73, 0, 0x10, 0}, nil},
		{"a:\nj a\n.org 0\n.byte 1", []byte{1, 0, 0, 0, 0, 0, 0, 0}, []api.Label{a}},
		{".dword -1\n.org 0\na:\nj a", []byte{0x6f, 0, 0, 0, 255, 255, 255, 255}, []api.Label{a}},
		{"j a\n.org 0\nnop\n.org 0\na:", []byte{0x13, 0, 0, 0, 0, 0, 0, 0}, []api.Label{a}},
		{"nop\n.org 0\nj a\n.org 0\na:", []byte{0x6f, 0, 0, 0, 0, 0, 0, 0}, []api.Label{a}},
		{".org 7\n.byte 7\n.org 6\n.byte 6\n.org 0\n.dword 0", []byte{0, 0, 0, 0, 0, 0, 0, 0}, nil},
	} {
		right(t, c.source, 8, c.b, c.l...)
		check(t, c.source, 8)
	}
}
