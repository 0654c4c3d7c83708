package bcd

import (
	"math"
	"strings"
	"testing"

	"groat/api"
)

// digitsOf: a text of so many digits, all ten of them in turn, from the one given on.
func digitsOf(n, first int) string {
	out := make([]byte, n)
	for i := range out {
		out[i] = "0123456789"[(first+i)%10]
	}
	return string(out)
}

// packed: digits by halves of bytes, made of pairs with a nought ahead of an odd count, apart from the program's own way.
func packed(s string) string {
	if len(s)%2 == 1 {
		s = "0" + s
	}
	var out strings.Builder
	for i := 0; i < len(s); i += 2 {
		out.WriteByte(16*(s[i]-'0') + (s[i+1] - '0'))
	}
	return out.String()
}

// counts: even and odd counts of digits, with the least and the greatest of each.
func counts() []int { return []int{0, 1, 2, 3, 4, 5, 6, 7, 10, 11, 18, 19, 100, 101, 997, 998, 999} }

func checkSize(t *testing.T, n, want int) {
	t.Helper()
	if got := Size(n); got != want {
		t.Errorf("Size(%d): %d; want %d", n, got, want)
	}
}

func checkPut(t *testing.T, s, want string, ok bool) {
	t.Helper()
	if b, k := Put(s); b != want || k != ok {
		t.Errorf("Put(%q): %q, %v; want %q, %v", s, b, k, want, ok)
	}
}

func checkGet(t *testing.T, b string, n int, want string) {
	t.Helper()
	if s, e, at := Get(b, n); s != want || e != api.OK || at != 0 {
		t.Errorf("Get(%q, %d): %q, %d, %d; want %q, OK, 0", b, n, s, e, at, want)
	}
}

func checkWrong(t *testing.T, b string, n int, want api.Errno, place int) {
	t.Helper()
	if s, e, at := Get(b, n); s != "" || e != want || at != place {
		t.Errorf("Get(%q, %d): %q, %d, %d; want none, %d, %d", b, n, s, e, at, want, place)
	}
}

// withHalf: b, with another half at place i, where each byte has two.
func withHalf(b string, i int, h byte) string {
	out := []byte(b)
	if i%2 == 0 {
		out[i/2] = out[i/2]&0x0f | h<<4
	} else {
		out[i/2] = out[i/2]&0xf0 | h
	}
	return string(out)
}

// P3.1: Size

func TestSizeOrdinary(t *testing.T) {
	for n, want := range []int{0, 1, 1, 2, 2, 3, 3, 4, 4, 5, 5} {
		checkSize(t, n, want)
	}
	checkSize(t, 998, 499)
	checkSize(t, 999, 500)
	checkSize(t, 1000, 500)
	checkSize(t, 1001, 501)
}

func TestSizeBelowOne(t *testing.T) {
	for _, n := range []int{0, -1, -2, -3, -999, -1000, math.MinInt + 1, math.MinInt} {
		checkSize(t, n, 0)
	}
}

func TestSizeOfTheGreatest(t *testing.T) {
	half := math.MaxInt / 2
	checkSize(t, math.MaxInt, half+1)
	checkSize(t, math.MaxInt-1, half)
	checkSize(t, math.MaxInt-2, half)
}

// P3.1: Put

func TestPutOrdinary(t *testing.T) {
	checkPut(t, "", "", true)
	checkPut(t, "0", "\x00", true)
	checkPut(t, "7", "\x07", true)
	checkPut(t, "00", "\x00", true)
	checkPut(t, "42", "\x42", true)
	checkPut(t, "123", "\x01\x23", true)
	checkPut(t, "1804", "\x18\x04", true)
	checkPut(t, "90210", "\x09\x02\x10", true)
	checkPut(t, "000001", "\x00\x00\x01", true)
	checkPut(t, "9876543210", "\x98\x76\x54\x32\x10", true)
	checkPut(t, "99999", "\x09\x99\x99", true)
}

func TestPutCounts(t *testing.T) {
	for _, n := range counts() {
		for first := range 10 {
			s := digitsOf(n, first)
			checkPut(t, s, packed(s), true)
		}
	}
	checkPut(t, strings.Repeat("9", 999), "\x09"+strings.Repeat("\x99", 499), true)
}

func TestPutTooMany(t *testing.T) {
	for _, n := range []int{1000, 1001, 1998, 5000, 70000} {
		checkPut(t, digitsOf(n, 1), "", false)
		checkPut(t, strings.Repeat("0", n), "", false)
		checkPut(t, strings.Repeat("x", n), "", false)
	}
}

func TestPutOfEachByte(t *testing.T) {
	for b := range 256 {
		one := string([]byte{byte(b)})
		for _, s := range []string{one, one + "1", "1" + one, one + "12", "1" + one + "2", "12" + one} {
			if b >= 0x30 && b <= 0x39 {
				checkPut(t, s, packed(s), true)
			} else {
				checkPut(t, s, "", false)
			}
		}
	}
}

func TestPutWrongTexts(t *testing.T) {
	texts := []string{
		"9a", "a9", "1A", "+1", "-1", " 1", "1 ", "1\n", "0x1", "1_0", "1.0", "1e3",
		"\x00", "\x80", "\xb1", "\xff1", "\u0661", "\uff11", "\u00b2", "\ufffd",
		digitsOf(998, 1) + "x", "x" + digitsOf(998, 1), digitsOf(998, 1) + ":",
	}
	for _, s := range texts {
		checkPut(t, s, "", false)
	}
}

// P3.1: Get

func TestGetOrdinary(t *testing.T) {
	checkGet(t, "\x07", 1, "7")
	checkGet(t, "\x42", 2, "42")
	checkGet(t, "\x01\x23", 3, "123")
	checkGet(t, "\x18\x04", 4, "1804")
	checkGet(t, "\x09\x02\x10", 5, "90210")
	checkGet(t, "\x00\x00\x01", 6, "000001")
	checkGet(t, "\x00\x00\x01", 5, "00001")
}

func TestGetNone(t *testing.T) {
	for _, b := range []string{"", "\x00", "\x10", "\xff", "\xff\xff\xff"} {
		checkGet(t, b, 0, "")
	}
}

func TestGetCountsOutOfBounds(t *testing.T) {
	for _, n := range []int{math.MinInt, -1000, -2, -1, 1000, 1001, 5000, math.MaxInt} {
		for _, b := range []string{"", "\x12", "\xff", strings.Repeat("\x00", 500), strings.Repeat("\x99", 5000)} {
			checkWrong(t, b, n, api.ErrArg, 0)
		}
	}
}

// TestGetLengths: just as many bytes as Size tells, each count of fewer ones, and more behind that aren't looked at.
func TestGetLengths(t *testing.T) {
	for _, n := range counts() {
		s := digitsOf(n, 3)
		b := packed(s)
		checkGet(t, b, n, s)
		for _, behind := range []string{"\x00", "\x12", "\xff", "\xa0\x0a", strings.Repeat("\xee", 600)} {
			checkGet(t, b+behind, n, s)
		}
		for length := range len(b) {
			checkWrong(t, b[:length], n, api.ErrCut, length)
		}
	}
}

// TestGetCutAheadOfHalves: a cut is told ahead of what is wrong in the bytes that are there.
func TestGetCutAheadOfHalves(t *testing.T) {
	checkWrong(t, "", 1, api.ErrCut, 0)
	checkWrong(t, "", 999, api.ErrCut, 0)
	checkWrong(t, "\xff", 3, api.ErrCut, 1)
	checkWrong(t, "\xff", 4, api.ErrCut, 1)
	checkWrong(t, "\x10\x0a", 5, api.ErrCut, 2)
	checkWrong(t, strings.Repeat("\xff", 499), 999, api.ErrCut, 499)
	checkWrong(t, strings.Repeat("\xff", 498), 998, api.ErrCut, 498)
}

// TestGetOfEachByte: alone, as one digit and as two; ahead of another byte, and behind one.
func TestGetOfEachByte(t *testing.T) {
	for b := range 256 {
		one := string([]byte{byte(b)})
		high, low := b/16, b%16
		lower := string([]byte{byte('0' + low)})
		both := string([]byte{byte('0' + high), byte('0' + low)})
		switch {
		case high > 0:
			checkWrong(t, one, 1, api.ErrPad, 0)
			checkWrong(t, one+"\x45", 3, api.ErrPad, 0)
			checkWrong(t, one+"\xff", 3, api.ErrPad, 0)
		case low > 9:
			checkWrong(t, one, 1, api.ErrForm, 0)
			checkWrong(t, one+"\x45", 3, api.ErrForm, 0)
		default:
			checkGet(t, one, 1, lower)
			checkGet(t, one+"\x45", 3, lower+"45")
		}
		if high > 9 || low > 9 {
			checkWrong(t, one, 2, api.ErrForm, 0)
			checkWrong(t, "\x67"+one, 4, api.ErrForm, 1)
			checkWrong(t, "\x07"+one, 3, api.ErrForm, 1)
		} else {
			checkGet(t, one, 2, both)
			checkGet(t, "\x67"+one, 4, "67"+both)
			checkGet(t, "\x07"+one, 3, "7"+both)
		}
	}
}

// TestGetWrongHalfAtEachPlace: the first and the last one among them; of an odd count the first is the half that stands for no digit.
func TestGetWrongHalfAtEachPlace(t *testing.T) {
	for n := 1; n <= 9; n++ {
		b := packed(digitsOf(n, 5))
		for i := n % 2; i < 2*len(b); i++ {
			for h := byte(10); h < 16; h++ {
				checkWrong(t, withHalf(b, i, h), n, api.ErrForm, i/2)
			}
		}
	}
	for _, n := range []int{998, 999} {
		b := packed(digitsOf(n, 5))
		checkWrong(t, withHalf(b, n%2, 10), n, api.ErrForm, 0)
		checkWrong(t, withHalf(b, 2*len(b)-2, 10), n, api.ErrForm, len(b)-1)
		checkWrong(t, withHalf(b, 2*len(b)-1, 15), n, api.ErrForm, len(b)-1)
	}
}

func TestGetHalfThatStandsForNoDigit(t *testing.T) {
	for _, n := range []int{1, 3, 5, 7, 999} {
		b := packed(digitsOf(n, 0))
		for h := byte(1); h < 16; h++ {
			checkWrong(t, withHalf(b, 0, h), n, api.ErrPad, 0)
		}
	}
	checkWrong(t, "\x11\x23", 3, api.ErrPad, 0)
	checkGet(t, "\x11\x23", 4, "1123")
}

func TestGetFirstOfSeveralFaults(t *testing.T) {
	checkWrong(t, "\x1a", 1, api.ErrPad, 0)
	checkWrong(t, "\x1a\xbc", 3, api.ErrPad, 0)
	checkWrong(t, "\x10\x0a", 3, api.ErrPad, 0)
	checkWrong(t, "\xff\xff", 3, api.ErrPad, 0)
	checkWrong(t, "\x0a\xff", 3, api.ErrForm, 0)
	checkWrong(t, "\xff\xff", 4, api.ErrForm, 0)
	checkWrong(t, "\x0a\xff", 4, api.ErrForm, 0)
	checkWrong(t, "\x12\xa0\x0b", 6, api.ErrForm, 1)
	checkWrong(t, "\x12\x0a\xb0", 6, api.ErrForm, 1)
	checkWrong(t, "\x01\x2f\xff", 3, api.ErrForm, 1)
	checkWrong(t, strings.Repeat("\xff", 600), 999, api.ErrPad, 0)
}

// P3.2

func TestWhatIsPutIsGot(t *testing.T) {
	for _, n := range counts() {
		for first := range 10 {
			s := digitsOf(n, first)
			b, ok := Put(s)
			if !ok || len(b) != Size(n) {
				t.Errorf("Put(%q): %q, %v", s, b, ok)
			}
			checkGet(t, b, n, s)
		}
	}
}

// TestWhatIsGotIsPutAsItWas: of all texts of one byte and of two, by each count of digits that takes as many bytes.
func TestWhatIsGotIsPutAsItWas(t *testing.T) {
	for x := range 65536 {
		two := string([]byte{byte(x >> 8), byte(x)})
		for n := 1; n <= 4; n++ {
			b := two[:Size(n)]
			if s, e, _ := Get(b, n); e == api.OK {
				checkPut(t, s, b, true)
			}
		}
	}
}

// TestOneSpelling: of all texts of two bytes just as many are got as there are numbers of so many digits.
func TestOneSpelling(t *testing.T) {
	for n, want := range map[int]int{3: 1000, 4: 10000} {
		spelt := map[string]bool{}
		got := 0
		for x := range 65536 {
			if s, e, _ := Get(string([]byte{byte(x >> 8), byte(x)}), n); e == api.OK {
				spelt[s] = true
				got++
			}
		}
		if got != want || len(spelt) != want {
			t.Errorf("%d digits: %d texts are got, as %d; want %d", n, got, len(spelt), want)
		}
	}
}

func TestPackedCompareAsDigits(t *testing.T) {
	for _, n := range []int{1, 2, 3, 4, 5, 18, 19, 998, 999} {
		texts := []string{strings.Repeat("0", n), strings.Repeat("9", n), "1" + strings.Repeat("0", n-1), strings.Repeat("0", n-1) + "1"}
		for first := range 10 {
			texts = append(texts, digitsOf(n, first), strings.Repeat("5", n-1)+digitsOf(1, first))
		}
		for _, a := range texts {
			for _, b := range texts {
				p, okP := Put(a)
				q, okQ := Put(b)
				if !okP || !okQ || strings.Compare(p, q) != strings.Compare(a, b) {
					t.Errorf("%q and %q don't compare as %q and %q", p, q, a, b)
				}
			}
		}
	}
}
