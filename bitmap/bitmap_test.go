package bitmap

import (
	"fmt"
	"math"
	"strings"
	"testing"

	"groat/api"
	"groat/fields"
)

// noughts: seven bytes of 0.
const noughts = "\x00\x00\x00\x00\x00\x00\x00"

// wrongDigits: bytes that are no digits of sixteen: small letters, the neighbours of 0 to 9 and A to F, and bytes of 80 and above.
const wrongDigits = "abcdef/:@G`g \n\x00\x7f\x80\xb0\xc1\xff"

func styles() []int { return []int{api.SAscii, api.SBinary} }

func wrongStyles() []int {
	return []int{0, 3, -1, -2, 4, 256, 257, 258, 1 << 32, 1<<32 + 1, 1<<32 + 2, math.MaxInt, math.MinInt}
}

// ascii: bytes by digits of sixteen, by another way than the program's.
func ascii(b string) string { return fmt.Sprintf("%X", b) }

// in: a bitmap's bytes as they stand in a style.
func in(style int, b string) string {
	if style == api.SAscii {
		return ascii(b)
	}
	return b
}

// bytesOf: the bytes of the bitmap of these numbers, from 2 to 128, bit by bit from the left.
func bytesOf(numbers ...int) string {
	var b [16]byte
	length := 8
	for _, n := range numbers {
		b[(n-1)/8] |= 0x80 >> ((n - 1) % 8)
		if n > 64 {
			b[0] |= 0x80
			length = 16
		}
	}
	return string(b[:length])
}

// span: the numbers from one to another.
func span(from, to int) []int {
	var out []int
	for n := from; n <= to; n++ {
		out = append(out, n)
	}
	return out
}

// samples: numbers of sets of many shapes, none with 1.
func samples() [][]int {
	out := [][]int{
		nil, {2, 64}, {3, 65}, {2, 65}, {64, 65}, {2, 128}, {64, 128}, {65, 128}, {2, 64, 65, 128}, {11}, {11, 70},
		{2, 3, 4, 7, 11, 12, 41, 42}, {2, 3, 4, 7, 11, 12, 41, 42, 70, 128}, {66, 80, 97, 127}, {8, 9, 16, 17, 72, 73, 120, 121},
		span(2, 64), span(65, 128), span(2, 128), span(2, 65), span(64, 128), span(33, 96),
	}
	for n := 2; n <= 128; n++ {
		out = append(out, []int{n})
	}
	return out
}

func checkPut(t *testing.T, style int, s fields.Set, want string) {
	t.Helper()
	if got, err := Put(style, s); got != want || err != api.OK {
		t.Errorf("Put(%d, %v): %q, %d; want %q, 0", style, s, got, err, want)
	}
}

func checkPutWrong(t *testing.T, style int, s fields.Set) {
	t.Helper()
	if got, err := Put(style, s); got != "" || err != api.ErrArg {
		t.Errorf("Put(%d, %v): %q, %d; want none, ErrArg", style, s, got, err)
	}
}

func checkGet(t *testing.T, style int, b string, at int, want fields.Set, behind int) {
	t.Helper()
	if got, next, err := Get(style, b, at); got != want || next != behind || err != api.OK {
		t.Errorf("Get(%d, %q, %d): %v, %d, %d; want %v, %d, 0", style, b, at, got, next, err, want, behind)
	}
}

func checkGetWrong(t *testing.T, style int, b string, at int, want api.Errno) {
	t.Helper()
	if got, next, err := Get(style, b, at); got != (fields.Set{}) || next != 0 || err != want {
		t.Errorf("Get(%d, %q, %d): %v, %d, %d; want none, 0, %d", style, b, at, got, next, err, want)
	}
}

// with: a text with another byte at a place.
func with(s string, at int, b byte) string { return s[:at] + string([]byte{b}) + s[at+1:] }

// P6.1

func TestPutOrdinary(t *testing.T) {
	checkPut(t, api.SBinary, fields.Of(2, 64), "\x40\x00\x00\x00\x00\x00\x00\x01")
	checkPut(t, api.SAscii, fields.Of(2, 64), "4000000000000001")
	checkPut(t, api.SBinary, fields.Of(3, 65), "\xa0"+noughts+"\x80"+noughts)
	checkPut(t, api.SAscii, fields.Of(3, 65), "A0000000000000008000000000000000")
	checkPut(t, api.SAscii, fields.Of(11), "0020000000000000")
	checkPut(t, api.SAscii, fields.Of(11, 70), "80200000000000000400000000000000")
	checkPut(t, api.SBinary, fields.Of(11, 26), "\x00\x20\x00\x40\x00\x00\x00\x00")
	checkPut(t, api.SBinary, fields.Of(2, 3, 4, 7, 11, 12, 41, 42, 70, 128), "\xf2\x30\x00\x00\x00\xc0\x00\x00\x04\x00\x00\x00\x00\x00\x00\x01")
}

func TestPutOfTheEdges(t *testing.T) {
	checkPut(t, api.SBinary, fields.Set{}, "\x00"+noughts)
	checkPut(t, api.SAscii, fields.Set{}, "0000000000000000")
	checkPut(t, api.SBinary, fields.Of(2), "\x40"+noughts)
	checkPut(t, api.SAscii, fields.Of(2), "4000000000000000")
	checkPut(t, api.SBinary, fields.Of(64), noughts+"\x01")
	checkPut(t, api.SAscii, fields.Of(64), "0000000000000001")
	checkPut(t, api.SBinary, fields.Of(65), "\x80"+noughts+"\x80"+noughts)
	checkPut(t, api.SAscii, fields.Of(65), "80000000000000008000000000000000")
	checkPut(t, api.SBinary, fields.Of(128), "\x80"+noughts+noughts+"\x01")
	checkPut(t, api.SAscii, fields.Of(128), "80000000000000000000000000000001")
	checkPut(t, api.SBinary, fields.Of(span(2, 64)...), "\x7f\xff\xff\xff\xff\xff\xff\xff")
	checkPut(t, api.SAscii, fields.Of(span(2, 128)...), strings.Repeat("F", 32))
}

func TestPutOfManySets(t *testing.T) {
	for _, numbers := range samples() {
		for _, style := range styles() {
			checkPut(t, style, fields.Of(numbers...), in(style, bytesOf(numbers...)))
		}
	}
}

func TestPutWrongStyle(t *testing.T) {
	for _, style := range wrongStyles() {
		for _, s := range []fields.Set{{}, fields.Of(2), fields.Of(2, 128), fields.Of(1)} {
			checkPutWrong(t, style, s)
		}
	}
}

func TestPutOfASetWithOne(t *testing.T) {
	for _, style := range styles() {
		for _, numbers := range samples() {
			checkPutWrong(t, style, fields.Of(numbers...).With(1))
		}
		checkPutWrong(t, style, fields.Bits(math.MaxUint64, math.MaxUint64))
	}
}

// P6.2

func TestGetOrdinary(t *testing.T) {
	checkGet(t, api.SBinary, "\x40\x00\x00\x00\x00\x00\x00\x01", 0, fields.Of(2, 64), 8)
	checkGet(t, api.SAscii, "4000000000000001", 0, fields.Of(2, 64), 16)
	checkGet(t, api.SBinary, "\xa0"+noughts+"\x80"+noughts, 0, fields.Of(3, 65), 16)
	checkGet(t, api.SAscii, "A0000000000000008000000000000000", 0, fields.Of(3, 65), 32)
	checkGet(t, api.SAscii, "08000020000000000000000001", 4, fields.Of(11), 20)
	checkGet(t, api.SAscii, "080080200000000000000400000000000000000001301", 4, fields.Of(11, 70), 36)
	checkGet(t, api.SBinary, "\x18\x04\x00\x20\x00\x40\x00\x00\x00\x00\x00\x00\x01", 2, fields.Of(11, 26), 10)
}

func TestGetOfTheEdges(t *testing.T) {
	checkGet(t, api.SBinary, "\x00"+noughts, 0, fields.Set{}, 8)
	checkGet(t, api.SAscii, "0000000000000000", 0, fields.Set{}, 16)
	checkGet(t, api.SAscii, "4000000000000000", 0, fields.Of(2), 16)
	checkGet(t, api.SAscii, "0000000000000001", 0, fields.Of(64), 16)
	checkGet(t, api.SAscii, "80000000000000008000000000000000", 0, fields.Of(65), 32)
	checkGet(t, api.SAscii, "80000000000000000000000000000001", 0, fields.Of(128), 32)
	checkGet(t, api.SBinary, strings.Repeat("\xff", 16), 0, fields.Of(span(2, 128)...), 16)
	checkGet(t, api.SAscii, strings.Repeat("F", 32), 0, fields.Of(span(2, 128)...), 32)
	checkGet(t, api.SAscii, "7FFFFFFFFFFFFFFF", 0, fields.Of(span(2, 64)...), 16)
}

// TestGetAtEachPlace: bytes ahead of it and behind it tell nothing, though they be digits, or none.
func TestGetAtEachPlace(t *testing.T) {
	around := []string{"", "0", "F", "\x00", "\xff", "g", "12", "\xff\xff\xff", strings.Repeat("F", 40), strings.Repeat("\x00", 40), strings.Repeat("z", 40)}
	for _, numbers := range samples() {
		for _, style := range styles() {
			b := in(style, bytesOf(numbers...))
			for _, ahead := range around {
				for _, behind := range around {
					checkGet(t, style, ahead+b+behind, len(ahead), fields.Of(numbers...), len(ahead+b))
				}
			}
		}
	}
}

func TestGetWrongStyle(t *testing.T) {
	for _, style := range wrongStyles() {
		for _, b := range []string{"", "0", bytesOf(2), ascii(bytesOf(2)), ascii(bytesOf(2, 128)), "\xc0" + noughts + "\x00" + noughts} {
			checkGetWrong(t, style, b, 0, api.ErrArg)
			checkGetWrong(t, style, b, -1, api.ErrArg)
			checkGetWrong(t, style, b, len(b), api.ErrArg)
		}
	}
}

func TestGetWrongPlace(t *testing.T) {
	for _, style := range styles() {
		for _, b := range []string{"", "0", in(style, bytesOf(2)), in(style, bytesOf(2, 128)), in(style, bytesOf(2)+bytesOf(3))} {
			for _, at := range []int{-1, -2, -8, -16, -len(b) - 1, math.MinInt, len(b) + 1, len(b) + 8, len(b) + 16, 1 << 32, math.MaxInt - 16, math.MaxInt} {
				checkGetWrong(t, style, b, at, api.ErrArg)
			}
			checkGetWrong(t, style, b, len(b), api.ErrCut)
		}
	}
}

// TestGetCut: of a bitmap that ends at each place within it, at the start of b and behind other bytes.
func TestGetCut(t *testing.T) {
	for _, numbers := range samples() {
		for _, style := range styles() {
			b := in(style, bytesOf(numbers...))
			for end := range len(b) {
				checkGetWrong(t, style, b[:end], 0, api.ErrCut)
				checkGetWrong(t, style, "F\x00g"+b[:end], 3, api.ErrCut)
			}
		}
	}
}

// TestGetCutInOneStyle: what suffices in the one style is cut in the other one.
func TestGetCutInOneStyle(t *testing.T) {
	checkGetWrong(t, api.SAscii, "40000000", 0, api.ErrCut)
	checkGet(t, api.SBinary, "40000000", 0, fields.Of(3, 4, 6, 11, 12, 19, 20, 27, 28, 35, 36, 43, 44, 51, 52, 59, 60), 8)
	checkGetWrong(t, api.SAscii, "C000000000000000"+"00000000", 0, api.ErrCut)
	checkGetWrong(t, api.SBinary, "\xc0"+noughts, 0, api.ErrCut)
}

func TestGetWrongDigitAtEachPlace(t *testing.T) {
	for _, b := range []string{ascii(bytesOf(2, 11, 64)), ascii(bytesOf(2, 11, 64, 65, 128)), ascii(bytesOf()), ascii(bytesOf(128))} {
		for at := range len(b) {
			for i := range len(wrongDigits) {
				wrong := with(b, at, wrongDigits[i])
				checkGetWrong(t, api.SAscii, wrong, 0, api.ErrForm)
				checkGetWrong(t, api.SAscii, "12"+wrong+"34", 2, api.ErrForm)
			}
		}
	}
}

// TestGetEachByteAsADigit: of all 256 bytes just the sixteen digits are taken, in both halves.
func TestGetEachByteAsADigit(t *testing.T) {
	for x := range 256 {
		first := with("0000000000000000", 15, byte(x))
		more := with("80000000000000000000000000000001", 30, byte(x))
		worth := strings.IndexByte("0123456789ABCDEF", byte(x))
		if worth < 0 {
			checkGetWrong(t, api.SAscii, first, 0, api.ErrForm)
			checkGetWrong(t, api.SAscii, more, 0, api.ErrForm)
			continue
		}
		checkGet(t, api.SAscii, first, 0, fields.Bits(uint64(worth), 0), 16)
		checkGet(t, api.SAscii, more, 0, fields.Bits(0, uint64(16*worth+1)), 32)
	}
}

func TestGetSmallLetters(t *testing.T) {
	checkGet(t, api.SAscii, "7ABCDEF000000000", 0, fields.Bits(0x7ABCDEF000000000, 0), 16)
	checkGetWrong(t, api.SAscii, "7abcdef000000000", 0, api.ErrForm)
	checkGetWrong(t, api.SAscii, "7ABCDEf000000000", 0, api.ErrForm)
	checkGet(t, api.SAscii, "8000000000000000000000000000ABCD", 0, fields.Bits(0, 0xABCD), 32)
	checkGetWrong(t, api.SAscii, "8000000000000000000000000000abcd", 0, api.ErrForm)
	checkGetWrong(t, api.SAscii, "a0000000000000008000000000000000", 0, api.ErrForm)
}

// TestGetAnyBytesInBinary: there all bytes tell something.
func TestGetAnyBytesInBinary(t *testing.T) {
	for x := range 256 {
		checkGet(t, api.SBinary, with("\x00"+noughts, 7, byte(x)), 0, fields.Bits(uint64(x), 0), 8)
		if x > 0 {
			checkGet(t, api.SBinary, "\x80"+noughts+with("\x00"+noughts, 7, byte(x)), 0, fields.Bits(0, uint64(x)), 16)
		}
	}
	checkGet(t, api.SBinary, "gz\n\x1faG: ", 0, fields.Bits(0x677A0A1F61473A20, 0), 8)
}

func TestGetEightMoreOfNoughts(t *testing.T) {
	for _, first := range []string{"\xc0" + noughts, "\x80" + noughts, strings.Repeat("\xff", 8), "\x80\x00\x00\x00\x00\x00\x00\x01"} {
		for _, style := range styles() {
			b := in(style, first+"\x00"+noughts)
			checkGetWrong(t, style, b, 0, api.ErrBitmap)
			checkGetWrong(t, style, "\x01"+b, 1, api.ErrBitmap)
			checkGetWrong(t, style, b+"\xff", 0, api.ErrBitmap)
			checkGetWrong(t, style, b+in(style, bytesOf(2, 65)), 0, api.ErrBitmap)
		}
	}
	checkGet(t, api.SBinary, "\x40"+noughts+"\x00"+noughts, 0, fields.Of(2), 8)
}

// TestGetOrderOfErrors: of each half a cut ahead of a wrong digit, the first half ahead of the second, and noughts last.
func TestGetOrderOfErrors(t *testing.T) {
	zeros := strings.Repeat("0", 16)
	checkGetWrong(t, 3, "g", -1, api.ErrArg)
	checkGetWrong(t, 3, "g", 0, api.ErrArg)
	checkGetWrong(t, api.SAscii, "g", 2, api.ErrArg)
	checkGetWrong(t, api.SAscii, "g", 0, api.ErrCut)
	checkGetWrong(t, api.SAscii, "g00000000000000", 0, api.ErrCut)
	checkGetWrong(t, api.SAscii, "g000000000000000", 0, api.ErrForm)
	checkGetWrong(t, api.SAscii, "C00000000000000g", 0, api.ErrForm)
	checkGetWrong(t, api.SAscii, "C00000000000000g"+zeros[:15], 0, api.ErrForm)
	checkGetWrong(t, api.SAscii, "C00000000000000g"+zeros, 0, api.ErrForm)
	checkGetWrong(t, api.SAscii, "c000000000000000"+zeros, 0, api.ErrForm)
	checkGetWrong(t, api.SAscii, "C000000000000000"+"g", 0, api.ErrCut)
	checkGetWrong(t, api.SAscii, "C000000000000000"+"g"+zeros[:14], 0, api.ErrCut)
	checkGetWrong(t, api.SAscii, "C000000000000000"+zeros[:15], 0, api.ErrCut)
	checkGetWrong(t, api.SAscii, "C000000000000000"+zeros[:15]+"g", 0, api.ErrForm)
	checkGetWrong(t, api.SAscii, "C000000000000000"+zeros, 0, api.ErrBitmap)
	checkGetWrong(t, api.SBinary, "\xc0"+noughts+noughts, 0, api.ErrCut)
	checkGetWrong(t, api.SBinary, "\xc0"+noughts+noughts+"\x00", 0, api.ErrBitmap)
}

// P6.3

func TestWhatIsPutIsGot(t *testing.T) {
	for _, numbers := range samples() {
		for _, style := range styles() {
			s := fields.Of(numbers...)
			b, err := Put(style, s)
			if err != api.OK {
				t.Errorf("Put(%d, %v): %d", style, s, err)
			}
			checkGet(t, style, b, 0, s, len(b))
			checkGet(t, style, "0"+b+"0", 1, s, len(b)+1)
		}
	}
}

// patterns: halves of many shapes, the first bit among those that are 0 and those that are 1.
func patterns() []string {
	out := []string{"\x00" + noughts, noughts + "\x01", "\x01\x23\x45\x67\x89\xab\xcd\xef", "\xfe\xdc\xba\x98\x76\x54\x32\x10", strings.Repeat("\xff", 8), strings.Repeat("\x55", 8), strings.Repeat("\xaa", 8), "\x7f" + strings.Repeat("\xff", 7)}
	for n := range 64 {
		one := with("\x00"+noughts, n/8, 0x80>>(n%8))
		out = append(out, one, with(one, 0, one[0]|0x80))
	}
	return out
}

func TestWhatIsGotIsPutAsItWas(t *testing.T) {
	for _, first := range patterns() {
		for _, more := range patterns() {
			for _, style := range styles() {
				b := in(style, first+more)
				s, next, err := Get(style, b, 0)
				if err == api.ErrBitmap && first[0] >= 0x80 && more == "\x00"+noughts {
					continue
				}
				if err != api.OK || s.Has(1) {
					t.Errorf("Get(%d, %q, 0): %v, %d", style, b, s, err)
					continue
				}
				checkPut(t, style, s, b[:next])
			}
		}
	}
}

// TestOneBitmap: no two bitmaps tell one set.
func TestOneBitmap(t *testing.T) {
	for _, style := range styles() {
		told := map[fields.Set]string{}
		for _, first := range patterns() {
			for _, more := range patterns() {
				b := in(style, first+more)
				s, next, err := Get(style, b, 0)
				if err != api.OK {
					continue
				}
				if other, twice := told[s]; twice && other != b[:next] {
					t.Errorf("%v: %q and %q", s, other, b[:next])
				}
				told[s] = b[:next]
			}
		}
	}
}

func TestBothStylesTellTheSame(t *testing.T) {
	for _, first := range patterns() {
		for _, more := range patterns() {
			for end := range 17 {
				b := (first + more)[:end]
				s, next, err := Get(api.SBinary, b, 0)
				other, place, wrong := Get(api.SAscii, ascii(b), 0)
				if s != other || place != 2*next || err != wrong {
					t.Errorf("%x: %v, %d, %d; by digits %v, %d, %d", b, s, next, err, other, place, wrong)
				}
			}
		}
	}
	for _, numbers := range samples() {
		for _, s := range []fields.Set{fields.Of(numbers...), fields.Of(numbers...).With(1)} {
			b, err := Put(api.SBinary, s)
			digits, wrong := Put(api.SAscii, s)
			if ascii(b) != digits || err != wrong {
				t.Errorf("%v: %q, %d; by digits %q, %d", s, b, err, digits, wrong)
			}
		}
	}
}
