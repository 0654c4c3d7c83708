package digits

import (
	"math"
	"strconv"
	"strings"
	"testing"
)

func power(width int) int {
	p := 1
	for range width {
		p *= 10
	}
	return p
}

// wrongTexts: texts with a byte that is no digit, none of them empty.
func wrongTexts() []string {
	return []string{
		"a", "1a", "a1", "1a1", "+1", "-1", " 1", "1 ", "1\n", "0x1", "1_0", "1.0", "1e3",
		"/", ":", "1/", "1:", "\x00", "1\x00", "\x7f",
		"\x80", "1\x80", "\x801", "\xb0", "\xb9", "1\xb21", "\xff", "1\xff1",
		"\u0660", "1\u0661", "\uff11", "\u00b2", "\U0001d7ce", "\ufffd",
	}
}

func checkAll(t *testing.T, s string, want bool) {
	t.Helper()
	if got := All(s); got != want {
		t.Errorf("All(%q): %v", s, got)
	}
}

func checkPut(t *testing.T, n, width int, want string, ok bool) {
	t.Helper()
	if s, k := Put(n, width); s != want || k != ok {
		t.Errorf("Put(%d, %d): %q, %v; want %q, %v", n, width, s, k, want, ok)
	}
}

func checkGet(t *testing.T, s string, want int, ok bool) {
	t.Helper()
	if n, k := Get(s); n != want || k != ok {
		t.Errorf("Get(%q): %d, %v; want %d, %v", s, n, k, want, ok)
	}
}

func checkPad(t *testing.T, s string, width int, want string, ok bool) {
	t.Helper()
	if p, k := Pad(s, width); p != want || k != ok {
		t.Errorf("Pad(%q, %d): %q, %v; want %q, %v", s, width, p, k, want, ok)
	}
}

// P1.1

func TestAllOfEachByte(t *testing.T) {
	for b := 0; b < 256; b++ {
		digit := b >= 0x30 && b <= 0x39
		one := string([]byte{byte(b)})
		for _, s := range []string{one, "0" + one, one + "9", "12" + one + "34"} {
			checkAll(t, s, digit)
		}
	}
}

func TestAllOfTexts(t *testing.T) {
	for _, s := range []string{"", "0", "9", "0123456789", strings.Repeat("7", 5000)} {
		checkAll(t, s, true)
	}
	for _, s := range wrongTexts() {
		checkAll(t, s, false)
	}
	checkAll(t, strings.Repeat("7", 5000)+"\x80", false)
}

func TestPutOrdinary(t *testing.T) {
	checkPut(t, 42, 4, "0042", true)
	checkPut(t, 0, 1, "0", true)
	checkPut(t, 0, 18, "000000000000000000", true)
	checkPut(t, 1234567890, 10, "1234567890", true)
	checkPut(t, 123456789012345678, 18, "123456789012345678", true)
}

func TestPutWidths(t *testing.T) {
	for _, width := range []int{math.MinInt, -18, -1, 0, 19, 20, 999, math.MaxInt} {
		checkPut(t, 0, width, "", false)
		checkPut(t, 1, width, "", false)
	}
	checkPut(t, 5, 1, "5", true)
	checkPut(t, 5, 18, "000000000000000005", true)
}

func TestPutNumbersAtTheEdges(t *testing.T) {
	for width := 1; width <= 18; width++ {
		p := power(width)
		checkPut(t, 0, width, strings.Repeat("0", width), true)
		checkPut(t, p-1, width, strings.Repeat("9", width), true)
		checkPut(t, p/10, width, "1"+strings.Repeat("0", width-1), true)
		for _, n := range []int{math.MinInt, -p, -1, p, p + 1, math.MaxInt} {
			checkPut(t, n, width, "", false)
		}
	}
}

func TestGetOrdinary(t *testing.T) {
	checkGet(t, "0042", 42, true)
	checkGet(t, "0123456789", 123456789, true)
	for d := 0; d < 10; d++ {
		checkGet(t, strconv.Itoa(d), d, true)
	}
}

func TestGetLengths(t *testing.T) {
	checkGet(t, "", 0, false)
	for length := 1; length <= 18; length++ {
		checkGet(t, strings.Repeat("0", length), 0, true)
		checkGet(t, strings.Repeat("9", length), power(length)-1, true)
		checkGet(t, "1"+strings.Repeat("0", length-1), power(length-1), true)
	}
	for _, length := range []int{19, 20, 999, 5000} {
		checkGet(t, strings.Repeat("0", length), 0, false)
		checkGet(t, strings.Repeat("0", length-1)+"1", 0, false)
		checkGet(t, strings.Repeat("9", length), 0, false)
	}
}

func TestGetWrongBytes(t *testing.T) {
	for _, s := range wrongTexts() {
		checkGet(t, s, 0, false)
	}
	for at := range 18 {
		for _, b := range []byte{'/', ':', 0x00, 0x80, 0xb1, 0xff} {
			s := []byte(strings.Repeat("1", 18))
			s[at] = b
			checkGet(t, string(s), 0, false)
		}
	}
}

// P1.2

func TestPadOrdinary(t *testing.T) {
	checkPad(t, "7", 3, "007", true)
	checkPad(t, "007", 1, "7", true)
	checkPad(t, "107", 2, "", false)
	checkPad(t, "42", 2, "42", true)
	checkPad(t, "00", 2, "00", true)
	checkPad(t, "0012", 6, "000012", true)
	checkPad(t, "0012", 3, "012", true)
	checkPad(t, "000", 1, "0", true)
	checkPad(t, "010", 1, "", false)
	checkPad(t, "0100", 2, "", false)
	checkPad(t, "1000", 3, "", false)
	checkPad(t, "000000235959", 6, "235959", true)
	checkPad(t, "240101235959", 6, "", false)
}

func TestPadLengths(t *testing.T) {
	for _, width := range []int{1, 2, 998, 999} {
		checkPad(t, "", width, "", false)
		checkPad(t, strings.Repeat("0", 1000), width, "", false)
		checkPad(t, strings.Repeat("0", 5000), width, "", false)
		checkPad(t, strings.Repeat("0", 999), width, strings.Repeat("0", width), true)
		checkPad(t, "5", width, strings.Repeat("0", width-1)+"5", true)
	}
	checkPad(t, strings.Repeat("9", 999), 999, strings.Repeat("9", 999), true)
	checkPad(t, strings.Repeat("9", 999), 998, "", false)
	checkPad(t, "0"+strings.Repeat("9", 998), 998, strings.Repeat("9", 998), true)
	checkPad(t, strings.Repeat("9", 998), 999, "0"+strings.Repeat("9", 998), true)
	checkPad(t, strings.Repeat("0", 998)+"4", 1, "4", true)
}

func TestPadWidths(t *testing.T) {
	for _, s := range []string{"", "0", "5", "00", strings.Repeat("0", 999), strings.Repeat("0", 1000)} {
		for _, width := range []int{math.MinInt, -999, -1, 0, 1000, 1001, math.MaxInt} {
			checkPad(t, s, width, "", false)
		}
	}
}

func TestPadWrongBytes(t *testing.T) {
	for _, s := range wrongTexts() {
		for _, width := range []int{1, 2, 3, 4, 10, 999} {
			checkPad(t, s, width, "", false)
			checkPad(t, "000"+s, width, "", false)
		}
		checkPad(t, s, len(s), "", false)
	}
}

// P1.3

func samples() []int {
	l := []int{0, 1, 9, 10, 42, 99, 100, 8583, 235959}
	for width := 3; width < 18; width++ {
		l = append(l, power(width)-1, power(width), power(width)+1)
	}
	return append(l, power(18)-2, power(18)-1)
}

func TestWhatIsPutIsGot(t *testing.T) {
	for _, n := range samples() {
		for width := 1; width <= 18; width++ {
			s, ok := Put(n, width)
			if ok != (n < power(width)) {
				t.Errorf("Put(%d, %d): %v", n, width, ok)
			}
			if ok {
				checkGet(t, s, n, true)
			}
		}
	}
}

func TestWhatIsGotIsPutAsItWas(t *testing.T) {
	for _, s := range []string{"0", "00", "0042", "9", "10", "000000000000000000", "012345678901234567"} {
		n, ok := Get(s)
		if !ok {
			t.Errorf("Get(%q): false", s)
		}
		checkPut(t, n, len(s), s, true)
	}
}

func TestDigitsCompareAsNumbers(t *testing.T) {
	for width := 1; width <= 18; width++ {
		for _, n := range samples() {
			for _, m := range samples() {
				a, okA := Put(n, width)
				b, okB := Put(m, width)
				if okA && okB && (a < b) != (n < m) {
					t.Errorf("%q and %q don't compare as %d and %d", a, b, n, m)
				}
			}
		}
	}
}

func TestPaddedAndBack(t *testing.T) {
	texts := []string{"0", "00", "7", "007", "100", "0100", "235959", strings.Repeat("9", 998), strings.Repeat("0", 998)}
	for _, s := range texts {
		for _, width := range []int{len(s), len(s) + 1, len(s) + 6, 998, 999} {
			if width < len(s) || width > 999 {
				continue
			}
			p, ok := Pad(s, width)
			if !ok || len(p) != width {
				t.Errorf("Pad(%q, %d): %q, %v", s, width, p, ok)
			}
			checkPad(t, p, len(s), s, true)
		}
	}
}
