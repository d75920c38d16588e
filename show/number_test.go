package show_test

import (
	"math"
	"strconv"
	"strings"
	"testing"

	"undertow/show"
)

// decimal is a number's digits.
func decimal(n int64) string { return strconv.FormatInt(n, 10) }

// texts are all that have at most n of some letters.
func texts(letters string, n int) []string {
	l := []string{""}
	for from := 0; n > 0; n-- {
		to := len(l)
		for _, s := range l[from:to] {
			for k := range len(letters) {
				l = append(l, s+letters[k:k+1])
			}
		}
		from = to
	}
	return l
}

// checkNumber holds one text: it is a number's, if it is what that number's digits are.
func checkNumber(t *testing.T, s string) {
	t.Helper()
	want, e := strconv.ParseInt(s, 10, 64)
	ok := e == nil && decimal(want) == s
	if !ok {
		want = 0
	}
	if n, is := show.Number(s); n != want || is != ok {
		t.Fatalf("%.80q: %d %v, not %d %v", s, n, is, want, ok)
	}
}

// registers are all registers' texts.
var registers = func() map[string]int {
	m := map[string]int{}
	for r := range 32 {
		m["x"+strconv.Itoa(r)] = r
	}
	return m
}()

// checkRegister holds one text: it is one of the registers', or none's.
func checkRegister(t *testing.T, s string) {
	t.Helper()
	want, ok := registers[s]
	if r, is := show.Register(s); r != want || is != ok {
		t.Fatalf("%.80q: %d %v, not %d %v", s, r, is, want, ok)
	}
}

// P9.3: as it is written down.
func TestNumberWrittenDown(t *testing.T) {
	for s, want := range map[string]int64{
		"0": 0, "1": 1, "-1": -1, "9": 9, "10": 10, "-10": -10, "100": 100, "-2048": -2048, "1234567890": 1234567890, "-9876543210": -9876543210,
		"9223372036854775807": math.MaxInt64, "9223372036854775806": math.MaxInt64 - 1, "9223372036854775800": math.MaxInt64 - 7, "9223372036854775799": math.MaxInt64 - 8,
		"-9223372036854775808": math.MinInt64, "-9223372036854775807": math.MinInt64 + 1, "-9223372036854775800": math.MinInt64 + 8, "-9223372036854775799": math.MinInt64 + 9,
	} {
		if n, ok := show.Number(s); n != want || !ok {
			t.Errorf("%q: %d %v", s, n, ok)
		}
	}
	for _, s := range []string{
		"", "-", "--", "+", "-0", "+0", "00", "-00", "000", "01", "-01", "007", "+1", "--1", "-+1", "1-", "1+", "- 1", " 1", "1 ", "1 0", "\t1", "1\n", "1\x00", "\x001", "1_0", "1,0", "1.0", "1.", ".1", "1e3", "0x1", "0X1", "0b1", "0o7", "x", "x1", "a", "inf", "NaN", "(1)", "\u0661", "\uff11", "1\u0661", "\u22121", "/", ":", "1/", "1:", "-/",
		"9223372036854775808", "-9223372036854775809", "9223372036854775810", "-9223372036854775810", "9999999999999999999", "10000000000000000000", "-10000000000000000000", "18446744073709551615", "18446744073709551616", "18446744073709551617", "-18446744073709551615", "-18446744073709551616", "36893488147419103233", "92233720368547758070", "-92233720368547758080", "340282366920938463463374607431768211457", "09223372036854775807", "-09223372036854775808",
	} {
		if n, ok := show.Number(s); n != 0 || ok {
			t.Errorf("%q: %d %v", s, n, ok)
		}
	}
}

// P9.3: all short texts of the letters that numbers have, and of others beside them.
func TestNumberShort(t *testing.T) {
	for _, s := range texts("-+0129 x", 5) {
		checkNumber(t, s)
	}
	for _, s := range texts("0123456789-", 4) {
		checkNumber(t, s)
	}
	for a := range 256 {
		checkNumber(t, string([]byte{byte(a)}))
		for b := range 256 {
			checkNumber(t, string([]byte{byte(a), byte(b)}))
			checkNumber(t, string([]byte{'1', byte(a), byte(b)}))
			checkNumber(t, string([]byte{'-', byte(a), byte(b)}))
			checkNumber(t, string([]byte{byte(a), '7', byte(b)}))
		}
	}
}

// P9.3: numbers about both ends of 64 bits, and about all powers of two and of ten.
func TestNumberEdges(t *testing.T) {
	for k := range uint64(3000) {
		for _, at := range []uint64{1 << 63, 1<<63 - 1500, math.MaxUint64 - 3000, 10_000_000_000_000_000_000 - 1500} {
			s := strconv.FormatUint(at+k, 10)
			checkNumber(t, s)
			checkNumber(t, "-"+s)
			checkNumber(t, "0"+s)
			checkNumber(t, "-0"+s)
			checkNumber(t, s+"0")
			checkNumber(t, "-"+s+"0")
		}
	}
	for k := range 64 {
		for d := int64(-20); d <= 20; d++ {
			checkNumber(t, decimal(1<<k+d))
			checkNumber(t, decimal(-1<<k+d))
		}
	}
	for n := range 400 {
		for c := range 10 {
			s := strings.Repeat(strconv.Itoa(c), n)
			checkNumber(t, s)
			checkNumber(t, "-"+s)
			checkNumber(t, "1"+s)
			checkNumber(t, "-1"+s)
			checkNumber(t, s+"x")
		}
	}
}

// P9.3: texts of many digits, one of them turned into each byte, and many by chance.
func TestNumberMany(t *testing.T) {
	for _, s := range []string{"1234567890", "-1234567890", "9223372036854775807", "-9223372036854775808"} {
		for at := range len(s) {
			for c := range 256 {
				b := string([]byte{byte(c)})
				checkNumber(t, s[:at]+b+s[at+1:])
				checkNumber(t, s[:at]+b+s[at:])
			}
			checkNumber(t, s[at:])
			checkNumber(t, s[:at])
		}
	}
	d := draw(10)
	for range 300_000 {
		b := make([]byte, d.of(22))
		for k := range b {
			b[k] = "0123456789"[d.of(10)]
		}
		checkNumber(t, string(b))
		checkNumber(t, "-"+string(b))
		checkNumber(t, "9"+string(b))
		checkNumber(t, "-92233720"+string(b))
	}
}

// P9.3: every register's text, and what is none's.
func TestRegisterWrittenDown(t *testing.T) {
	for r := range 32 {
		if got, ok := show.Register("x" + strconv.Itoa(r)); got != r || !ok {
			t.Errorf("x%d: %d %v", r, got, ok)
		}
	}
	for _, s := range []string{
		"", "x", "X", "X1", "1", "31", "-1", "x-", "x-0", "x-1", "x-31", "x+1", "x00", "x01", "x09", "x010", "x031", "x32", "x33", "x64", "x99", "x100", "x256", "x257", "x288", "x65536", "x65537", "x4294967296", "x4294967297", "x4294967327", "x9223372036854775807", "x9223372036854775808", "x-9223372036854775808", "x18446744073709551616", "x18446744073709551617",
		"xx1", "x1x", "x1 ", " x1", "x 1", "x1\n", "x1\x00", "x1,", "x1.", "x1.0", "x0x1", "(x1)", "x(1)", "y1", "r1", "f1", "w1", "a0", "sp", "zero", "x\u0661", "x\uff11", "\uff581", "x" + strings.Repeat("0", 1000), "x" + strings.Repeat("1", 1000),
	} {
		if r, ok := show.Register(s); r != 0 || ok {
			t.Errorf("%q: %d %v", s, r, ok)
		}
	}
}

// P9.3: all short texts of the letters that registers have, and of others beside them.
func TestRegisterShort(t *testing.T) {
	for _, s := range texts("x0139-+ X", 5) {
		checkRegister(t, s)
	}
	for a := range 256 {
		checkRegister(t, string([]byte{byte(a)}))
		for b := range 256 {
			checkRegister(t, string([]byte{byte(a), byte(b)}))
			checkRegister(t, string([]byte{'x', byte(a), byte(b)}))
			checkRegister(t, string([]byte{byte(a), '1', byte(b)}))
			checkRegister(t, string([]byte{'x', '1', byte(a), byte(b)}))
		}
	}
	for n := range int64(70_000) {
		checkRegister(t, "x"+decimal(n))
		checkRegister(t, "x"+decimal(-n))
		checkRegister(t, "x"+decimal(n<<32))
		checkRegister(t, "x"+decimal(n<<32+1))
		checkRegister(t, decimal(n))
	}
}
