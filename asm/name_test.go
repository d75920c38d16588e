package asm_test

import (
	"strings"
	"testing"

	"undertow/asm"
)

// checkName holds whether a text is a name's against the model, and against a line that would name a place by it.
func checkName(t *testing.T, s string) {
	t.Helper()
	if got, want := asm.IsName(s), nameForm.MatchString(s); got != want {
		t.Errorf("%.100q: %v", s, got)
	}
}

// P10.2: names, and none, as they are written down.
func TestNames(t *testing.T) {
	for _, s := range []string{"a", "z", "a_1", "a1", "x0", "x31", "nop", "loop", "a_", "a__", "z9_9z", "abcdefghijklmnop", "a234567890123456", "a_______________", "aaaaaaaaaaaaaaaa", "li", "j", "byte"} {
		if !asm.IsName(s) {
			t.Errorf("%q is none", s)
		}
	}
	for _, s := range []string{"", "_", "_a", "0", "9", "1a", "-1", "A", "Z", "aB", "Ab", "a b", " a", "a ", "a\n", "\na", "a:", "a#", "a.b", "a-b", "a,", "é", "aé", "ä", "ａ", "a\x00", "\x00", "a\xff", "`", "{", "a`", "a{", "a/", "a:", "a@", "a[", "a^", "abcdefghijklmnopq", "a2345678901234567", "aaaaaaaaaaaaaaaaa"} {
		if asm.IsName(s) {
			t.Errorf("%q is one", s)
		}
	}
}

// P10.2: all texts of one byte and of two, and texts of every length with one byte in another one's place.
func TestNamesOfBytes(t *testing.T) {
	for c := range 256 {
		checkName(t, string([]byte{byte(c)}))
		for d := range 256 {
			checkName(t, string([]byte{byte(c), byte(d)}))
		}
		for n := 1; n <= 18; n++ {
			for at := range n {
				b := []byte(strings.Repeat("q", n))
				b[at] = byte(c)
				checkName(t, string(b))
			}
		}
	}
	for _, n := range []int{15, 16, 17, 18, 32, 256, 272, 65536, 65552, 1 << 20} {
		checkName(t, strings.Repeat("a", n))
		checkName(t, strings.Repeat("a", n-1)+"A")
	}
}
