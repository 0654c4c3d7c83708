package prefix

import (
	"fmt"
	"math"
	"strings"
	"testing"

	"groat/api"
)

// wrongDigits: bytes that are no digits: the neighbours of 0 to 9, letters, blanks, signs, and bytes whose lower bits are a digit's.
const wrongDigits = "/:aAfFgx +-.\n\x00\x01\x09\x10\x7f\x80\xb0\xb9\xff"

func styles() []int { return []int{api.SAscii, api.SBinary} }

func forms() []int { return []int{api.FTwo, api.FThree} }

func wrongStyles() []int {
	return []int{0, 3, -1, -2, 4, 256, 257, 258, 1 << 32, 1<<32 + 1, 1<<32 + 2, math.MaxInt, math.MinInt}
}

// wrongForms: FFixed, and numbers that no form has.
func wrongForms() []int {
	return []int{api.FFixed, 0, 4, 5, 9, -1, -2, -3, 256, 258, 259, 1 << 32, 1<<32 + 2, 1<<32 + 3, math.MaxInt, math.MinInt}
}

// most: the greatest length of a form.
func most(form int) int {
	if form == api.FTwo {
		return 99
	}
	return 999
}

// bytesOf: a length's bytes, by another way than the program's.
func bytesOf(style, form, n int) string {
	switch {
	case style == api.SAscii && form == api.FTwo:
		return fmt.Sprintf("%02d", n)
	case style == api.SAscii:
		return fmt.Sprintf("%03d", n)
	case form == api.FTwo:
		return string([]byte{byte(n/10*16 + n%10)})
	}
	return string([]byte{byte(n / 100), byte(n/10%10*16 + n%10)})
}

// edges: lengths at which the digits' count changes, as far as the form tells them.
func edges(form int) []int {
	if form == api.FTwo {
		return []int{0, 1, 9, 10, 11, 37, 90, 98, 99}
	}
	return []int{0, 1, 9, 10, 11, 37, 90, 98, 99, 100, 101, 109, 110, 500, 900, 990, 998, 999}
}

// with: a text with another byte at a place.
func with(s string, at int, b byte) string { return s[:at] + string([]byte{b}) + s[at+1:] }

func checkMost(t *testing.T, form, want int) {
	t.Helper()
	if got := Most(form); got != want {
		t.Errorf("Most(%d): %d; want %d", form, got, want)
	}
}

func checkPut(t *testing.T, style, form, n int, want string) {
	t.Helper()
	if got, err := Put(style, form, n); got != want || err != api.OK {
		t.Errorf("Put(%d, %d, %d): %q, %d; want %q, 0", style, form, n, got, err, want)
	}
}

func checkPutWrong(t *testing.T, style, form, n int, want api.Errno) {
	t.Helper()
	if got, err := Put(style, form, n); got != "" || err != want {
		t.Errorf("Put(%d, %d, %d): %q, %d; want none, %d", style, form, n, got, err, want)
	}
}

func checkGet(t *testing.T, style, form int, b string, at, want, behind int) {
	t.Helper()
	if got, next, err := Get(style, form, b, at); got != want || next != behind || err != api.OK {
		t.Errorf("Get(%d, %d, %q, %d): %d, %d, %d; want %d, %d, 0", style, form, b, at, got, next, err, want, behind)
	}
}

func checkGetWrong(t *testing.T, style, form int, b string, at int, want api.Errno) {
	t.Helper()
	if got, next, err := Get(style, form, b, at); got != 0 || next != 0 || err != want {
		t.Errorf("Get(%d, %d, %q, %d): %d, %d, %d; want 0, 0, %d", style, form, b, at, got, next, err, want)
	}
}

// P7.1

func TestMost(t *testing.T) {
	checkMost(t, api.FTwo, 99)
	checkMost(t, api.FThree, 999)
	for _, form := range wrongForms() {
		checkMost(t, form, 0)
	}
}

func TestPutOrdinary(t *testing.T) {
	checkPut(t, api.SAscii, api.FThree, 7, "007")
	checkPut(t, api.SBinary, api.FThree, 7, "\x00\x07")
	checkPut(t, api.SAscii, api.FTwo, 7, "07")
	checkPut(t, api.SBinary, api.FTwo, 7, "\x07")
	checkPut(t, api.SAscii, api.FTwo, 37, "37")
	checkPut(t, api.SBinary, api.FTwo, 37, "\x37")
	checkPut(t, api.SAscii, api.FThree, 255, "255")
	checkPut(t, api.SBinary, api.FThree, 255, "\x02\x55")
}

func TestPutOfTheEdges(t *testing.T) {
	checkPut(t, api.SAscii, api.FTwo, 0, "00")
	checkPut(t, api.SAscii, api.FTwo, 9, "09")
	checkPut(t, api.SAscii, api.FTwo, 10, "10")
	checkPut(t, api.SAscii, api.FTwo, 99, "99")
	checkPut(t, api.SAscii, api.FThree, 0, "000")
	checkPut(t, api.SAscii, api.FThree, 9, "009")
	checkPut(t, api.SAscii, api.FThree, 10, "010")
	checkPut(t, api.SAscii, api.FThree, 99, "099")
	checkPut(t, api.SAscii, api.FThree, 100, "100")
	checkPut(t, api.SAscii, api.FThree, 999, "999")
	checkPut(t, api.SBinary, api.FTwo, 0, "\x00")
	checkPut(t, api.SBinary, api.FTwo, 9, "\x09")
	checkPut(t, api.SBinary, api.FTwo, 10, "\x10")
	checkPut(t, api.SBinary, api.FTwo, 99, "\x99")
	checkPut(t, api.SBinary, api.FThree, 0, "\x00\x00")
	checkPut(t, api.SBinary, api.FThree, 9, "\x00\x09")
	checkPut(t, api.SBinary, api.FThree, 10, "\x00\x10")
	checkPut(t, api.SBinary, api.FThree, 99, "\x00\x99")
	checkPut(t, api.SBinary, api.FThree, 100, "\x01\x00")
	checkPut(t, api.SBinary, api.FThree, 999, "\x09\x99")
}

func TestPutEachLength(t *testing.T) {
	for _, style := range styles() {
		for _, form := range forms() {
			for n := range most(form) + 1 {
				checkPut(t, style, form, n, bytesOf(style, form, n))
			}
		}
	}
}

func TestPutWrongStyleOrForm(t *testing.T) {
	for _, n := range []int{0, 7, 99, 100, 999, 1000, -1, math.MaxInt, math.MinInt} {
		for _, style := range wrongStyles() {
			for _, form := range append(forms(), wrongForms()...) {
				checkPutWrong(t, style, form, n, api.ErrArg)
			}
		}
		for _, style := range styles() {
			for _, form := range wrongForms() {
				checkPutWrong(t, style, form, n, api.ErrArg)
			}
		}
	}
}

func TestPutWrongLength(t *testing.T) {
	for _, style := range styles() {
		for _, n := range []int{-1, -2, -9, -99, -999, 1000, 1001, 9999, 1 << 32, 1<<32 + 7, math.MaxInt, math.MinInt} {
			checkPutWrong(t, style, api.FTwo, n, api.ErrRange)
			checkPutWrong(t, style, api.FThree, n, api.ErrRange)
		}
		for _, n := range []int{100, 101, 107, 256, 999} {
			checkPutWrong(t, style, api.FTwo, n, api.ErrRange)
		}
	}
}

// TestPutUpToMost: Put and Most tell one bound.
func TestPutUpToMost(t *testing.T) {
	for _, style := range styles() {
		for _, form := range forms() {
			checkPut(t, style, form, Most(form), bytesOf(style, form, most(form)))
			checkPutWrong(t, style, form, Most(form)+1, api.ErrRange)
		}
	}
}

// TestPutOrderOfErrors: ErrArg ahead of ErrRange.
func TestPutOrderOfErrors(t *testing.T) {
	checkPutWrong(t, 3, api.FTwo, 100, api.ErrArg)
	checkPutWrong(t, api.SAscii, api.FFixed, 1, api.ErrArg)
	checkPutWrong(t, api.SAscii, api.FFixed, -1, api.ErrArg)
	checkPutWrong(t, api.SBinary, 4, 1000, api.ErrArg)
	checkPutWrong(t, api.SBinary, api.FThree, 1000, api.ErrRange)
}

// P7.2

func TestGetOrdinary(t *testing.T) {
	checkGet(t, api.SAscii, api.FTwo, "37x", 0, 37, 2)
	checkGet(t, api.SAscii, api.FThree, "003820161", 0, 3, 3)
	checkGet(t, api.SBinary, api.FThree, "\x00\x03\x82\x01\x61", 0, 3, 2)
	checkGet(t, api.SAscii, api.FTwo, "044111", 0, 4, 2)
	checkGet(t, api.SBinary, api.FTwo, "\x04\x41\x11", 0, 4, 1)
	checkGet(t, api.SAscii, api.FThree, "007", 0, 7, 3)
	checkGet(t, api.SBinary, api.FThree, "\x00\x07", 0, 7, 2)
	checkGet(t, api.SBinary, api.FTwo, "\x99", 0, 99, 1)
	checkGet(t, api.SBinary, api.FThree, "\x09\x99", 0, 999, 2)
	checkGet(t, api.SAscii, api.FThree, "999", 0, 999, 3)
}

// TestGetAtEachPlace: bytes ahead of it and behind it tell nothing, though they be digits, or none.
func TestGetAtEachPlace(t *testing.T) {
	around := []string{"", "0", "9", "\x00", "\xff", "g", "12", "\x10\x99", "\xff\xff\xff", strings.Repeat("9", 40), strings.Repeat("\x00", 40), strings.Repeat("z", 40)}
	for _, style := range styles() {
		for _, form := range forms() {
			for _, n := range edges(form) {
				b := bytesOf(style, form, n)
				for _, ahead := range around {
					for _, behind := range around {
						checkGet(t, style, form, ahead+b+behind, len(ahead), n, len(ahead+b))
					}
				}
			}
		}
	}
}

func TestGetWrongStyleOrForm(t *testing.T) {
	for _, b := range []string{"", "0", "07", "007", "\x07", "\x00\x07", "x", "\xff\xff\xff"} {
		for _, at := range []int{0, -1, len(b), len(b) + 1, math.MinInt, math.MaxInt} {
			for _, style := range wrongStyles() {
				for _, form := range append(forms(), wrongForms()...) {
					checkGetWrong(t, style, form, b, at, api.ErrArg)
				}
			}
			for _, style := range styles() {
				for _, form := range wrongForms() {
					checkGetWrong(t, style, form, b, at, api.ErrArg)
				}
			}
		}
	}
}

func TestGetWrongPlace(t *testing.T) {
	for _, style := range styles() {
		for _, form := range forms() {
			one := bytesOf(style, form, 12)
			for _, b := range []string{"", one[:1], one, one + one, "x", "\xff\xff\xff"} {
				for _, at := range []int{-1, -2, -3, -len(b) - 1, math.MinInt, len(b) + 1, len(b) + 2, len(b) + 3, 1 << 32, math.MaxInt - 3, math.MaxInt - 2, math.MaxInt} {
					checkGetWrong(t, style, form, b, at, api.ErrArg)
				}
				checkGetWrong(t, style, form, b, len(b), api.ErrCut)
			}
		}
	}
}

// TestGetCut: of a length that ends at each place within it, at the start of b and behind other bytes.
func TestGetCut(t *testing.T) {
	for _, style := range styles() {
		for _, form := range forms() {
			for _, n := range edges(form) {
				b := bytesOf(style, form, n)
				for end := range len(b) {
					checkGetWrong(t, style, form, b[:end], 0, api.ErrCut)
					checkGetWrong(t, style, form, "9\x00g"+b[:end], 3, api.ErrCut)
				}
			}
		}
	}
}

// TestGetCutByStyleAndForm: what suffices in the one style or form is cut in the other one.
func TestGetCutByStyleAndForm(t *testing.T) {
	checkGet(t, api.SBinary, api.FTwo, "0", 0, 30, 1)
	checkGetWrong(t, api.SAscii, api.FTwo, "0", 0, api.ErrCut)
	checkGet(t, api.SAscii, api.FTwo, "37", 0, 37, 2)
	checkGetWrong(t, api.SAscii, api.FThree, "37", 0, api.ErrCut)
	checkGet(t, api.SBinary, api.FTwo, "\x01", 0, 1, 1)
	checkGetWrong(t, api.SBinary, api.FThree, "\x01", 0, api.ErrCut)
}

func TestGetWrongDigitAtEachPlace(t *testing.T) {
	for _, form := range forms() {
		for _, n := range edges(form) {
			b := bytesOf(api.SAscii, form, n)
			for at := range len(b) {
				for i := range len(wrongDigits) {
					wrong := with(b, at, wrongDigits[i])
					checkGetWrong(t, api.SAscii, form, wrong, 0, api.ErrForm)
					checkGetWrong(t, api.SAscii, form, "12"+wrong+"34", 2, api.ErrForm)
				}
			}
		}
	}
}

// TestGetEachByteAsADigit: of all 256 bytes just the ten digits are taken, at each place.
func TestGetEachByteAsADigit(t *testing.T) {
	for x := range 256 {
		one := string([]byte{byte(x)})
		worth := strings.Index("0123456789", one)
		if worth < 0 {
			for _, b := range []string{one + "2", "1" + one} {
				checkGetWrong(t, api.SAscii, api.FTwo, b, 0, api.ErrForm)
			}
			for _, b := range []string{one + "23", "1" + one + "3", "12" + one} {
				checkGetWrong(t, api.SAscii, api.FThree, b, 0, api.ErrForm)
			}
			continue
		}
		checkGet(t, api.SAscii, api.FTwo, one+"2", 0, 10*worth+2, 2)
		checkGet(t, api.SAscii, api.FTwo, "1"+one, 0, 10+worth, 2)
		checkGet(t, api.SAscii, api.FThree, one+"23", 0, 100*worth+23, 3)
		checkGet(t, api.SAscii, api.FThree, "1"+one+"3", 0, 103+10*worth, 3)
		checkGet(t, api.SAscii, api.FThree, "12"+one, 0, 120+worth, 3)
	}
}

// TestGetWrongHalves: a half that is no digit, in each half of each byte, and a first one of three that isn't 0.
func TestGetWrongHalves(t *testing.T) {
	for _, b := range []string{"\x9a", "\xa9", "\x0a", "\xa0", "\x0f", "\xf0", "\xaa", "\xff"} {
		checkGetWrong(t, api.SBinary, api.FTwo, b, 0, api.ErrForm)
		checkGetWrong(t, api.SBinary, api.FThree, "\x00"+b, 0, api.ErrForm)
		checkGetWrong(t, api.SBinary, api.FThree, b+"\x00", 0, api.ErrForm)
		checkGetWrong(t, api.SBinary, api.FThree, "\x01"+b+"\x01", 1, api.ErrForm)
	}
	for _, b := range []string{"\x10\x07", "\x19\x99", "\x10\x00", "\x90\x00", "\xa0\x00", "\xf0\x00", "\x80\x07", "\x1a\x00", "\x10\x0a"} {
		checkGetWrong(t, api.SBinary, api.FThree, b, 0, api.ErrForm)
		checkGetWrong(t, api.SBinary, api.FThree, "\x07"+b+"\x07", 1, api.ErrForm)
	}
}

// TestGetAnyBytesInBinary: of all bytes, and of all pairs of them, just those that a length has are taken.
func TestGetAnyBytesInBinary(t *testing.T) {
	for _, form := range forms() {
		lengths := map[string]int{}
		for n := range most(form) + 1 {
			lengths[bytesOf(api.SBinary, form, n)] = n
		}
		for x := range 1 << 16 {
			pair := string([]byte{byte(x >> 8), byte(x)})
			b := pair[:len(bytesOf(api.SBinary, form, 0))]
			n, ok := lengths[b]
			if !ok {
				checkGetWrong(t, api.SBinary, form, pair, 0, api.ErrForm)
				continue
			}
			checkGet(t, api.SBinary, form, pair, 0, n, len(b))
		}
	}
}

func TestGetOrderOfErrors(t *testing.T) {
	checkGetWrong(t, 3, api.FTwo, "x", -1, api.ErrArg)
	checkGetWrong(t, 3, api.FTwo, "x", 0, api.ErrArg)
	checkGetWrong(t, api.SAscii, api.FFixed, "x", 0, api.ErrArg)
	checkGetWrong(t, api.SAscii, api.FFixed, "", 0, api.ErrArg)
	checkGetWrong(t, api.SAscii, api.FTwo, "x", 2, api.ErrArg)
	checkGetWrong(t, api.SAscii, api.FTwo, "x", 0, api.ErrCut)
	checkGetWrong(t, api.SAscii, api.FThree, "xx", 0, api.ErrCut)
	checkGetWrong(t, api.SAscii, api.FThree, "xxx", 0, api.ErrForm)
	checkGetWrong(t, api.SBinary, api.FTwo, "\xff", 2, api.ErrArg)
	checkGetWrong(t, api.SBinary, api.FTwo, "\xff", 1, api.ErrCut)
	checkGetWrong(t, api.SBinary, api.FTwo, "\xff", 0, api.ErrForm)
	checkGetWrong(t, api.SBinary, api.FThree, "\xff", 0, api.ErrCut)
	checkGetWrong(t, api.SBinary, api.FThree, "\x10", 0, api.ErrCut)
	checkGetWrong(t, api.SBinary, api.FThree, "\x10\x0a", 0, api.ErrForm)
}

// P7.3

func TestWhatIsPutIsGot(t *testing.T) {
	for _, style := range styles() {
		for _, form := range forms() {
			for n := range most(form) + 1 {
				b, err := Put(style, form, n)
				if err != api.OK {
					t.Errorf("Put(%d, %d, %d): %d", style, form, n, err)
				}
				checkGet(t, style, form, b, 0, n, len(b))
				checkGet(t, style, form, "9"+b+"9", 1, n, len(b)+1)
			}
		}
	}
}

// texts: bytes of all kinds, as many of them as the longest length has.
func texts() []string {
	var out []string
	some := "0123456789" + wrongDigits
	for i := range len(some) {
		for j := range len(some) {
			for k := range len(some) {
				out = append(out, string([]byte{some[i], some[j], some[k]}))
			}
		}
	}
	for x := range 1 << 16 {
		out = append(out, string([]byte{byte(x >> 8), byte(x), '0'}))
	}
	return out
}

// TestWhatIsGotIsPutAsItWas: so no two texts tell one length.
func TestWhatIsGotIsPutAsItWas(t *testing.T) {
	for _, style := range styles() {
		for _, form := range forms() {
			told := 0
			for _, b := range texts() {
				n, next, err := Get(style, form, b, 0)
				if err != api.OK {
					continue
				}
				told++
				if n < 0 || n > Most(form) {
					t.Errorf("Get(%d, %d, %q, 0): %d", style, form, b, n)
				}
				checkPut(t, style, form, n, b[:next])
			}
			if told <= most(form) {
				t.Errorf("style %d, form %d: only %d texts were got", style, form, told)
			}
		}
	}
}
