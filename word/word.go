// Package word is layer 1: bits and bytes of words. See shared/doc/01-word.md.
package word

// wordBits and wordBytes are how many a word has.
const (
	wordBits  = 64
	wordBytes = 8
)

// lastPlace is where a range of bytes may begin at most.
const lastPlace = 1 << 40

// Sext is the low bits of a word, with their sign.
func Sext(x uint64, n int) uint64 {
	switch {
	case n < 1:
		return 0
	case n > wordBits:
		return x
	}
	above := wordBits - n
	return uint64(int64(x<<above) >> above)
}

// Zext is the low bits of a word.
func Zext(x uint64, n int) uint64 {
	switch {
	case n < 1:
		return 0
	case n > wordBits:
		return x
	}
	above := wordBits - n
	return x << above >> above
}

// Field is some bits of an instruction's word.
func Field(w uint32, hi, lo int) uint32 {
	if hi > 31 || lo < 0 || hi < lo {
		return 0
	}
	return uint32(Zext(uint64(w>>lo), hi-lo+1))
}

// Bytes are a word's first bytes.
func Bytes(x uint64, n int) []byte {
	if n < 1 {
		return nil
	}
	l := make([]byte, min(n, wordBytes))
	for k := range l {
		l[k] = byte(x >> (8 * k))
	}
	return l
}

// Of is the word of some bytes.
func Of(b []byte) uint64 {
	var x uint64
	for k := range min(len(b), wordBytes) {
		x |= uint64(b[k]) << (8 * k)
	}
	return x
}

// Overlap says whether two ranges have a byte in both.
func Overlap(a, n, b, m int) bool {
	if !isRange(a, n) || !isRange(b, m) {
		return false
	}
	both := false
search:
	for k := range n {
		for j := range m {
			if a+k == b+j {
				both = true
				break search
			}
		}
	}
	return both
}

// isRange says whether there may be n bytes from a on.
func isRange(a, n int) bool {
	return 1 <= n && n <= wordBytes && 0 <= a && a <= lastPlace
}

// Aligned says whether an address is a multiple of a size.
func Aligned(a, n int) bool {
	switch n {
	case 1, 2, 4, 8:
		return a >= 0 && a%n == 0
	}
	return false
}
