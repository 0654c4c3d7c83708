package ber

import (
	"math"
	"strings"
	"testing"

	"groat/api"
)

// behinds: what may stand behind a length, and is left alone.
func behinds() []string {
	return []string{"", "\x00", "\x05", "\x7f", "\x80", "\x81", "\x82", "\x83", "\xff", "\x00\x00", "\xff\xff", "\x81\x80", "\x82\x01\x00", "x", strings.Repeat("\x82", 300)}
}

// aheads: what may stand ahead of a length, and is left alone.
func aheads() []string {
	return []string{"", "\x00", "\x5a", "\x80", "\x81", "\x82", "\x82\x01", "\x83", "\xff\xff", "abc", strings.Repeat("\x81", 300)}
}

// edges: the lengths at which the count of the bytes, or one of them, changes, with their neighbours and some ordinary ones.
func edges() []int {
	return []int{
		0x00, 0x01, 0x02, 0x05, 0x0A, 0x40, 0x7E, 0x7F,
		0x80, 0x81, 0x82, 0x83, 0xC8, 0xFE, 0xFF,
		0x100, 0x101, 0x12C, 0x17F, 0x180, 0x1FF, 0x200, 0x7FFF, 0x8000, 0x8001, 0x8100, 0x8180, 0x8200, 0xFF00, 0xFFFE, 0xFFFF,
	}
}

// wrongNumbers: numbers below 0 and above FFFF, such among them as look like a length in their lowest bytes.
func wrongNumbers() []int {
	return []int{
		-1, -2, -5, -0x7F, -0x80, -0x81, -0xFF, -0x100, -0x101, -0xFFFF, -0x10000, -0x10001, -1<<16 + 5, -1 << 32, -1<<32 + 5, -1<<32 + 0x80, -1<<32 + 0x12C,
		0x10000, 0x10001, 0x10005, 0x1007F, 0x10080, 0x100FF, 0x10100, 0x1FFFF, 0x20000, 0xFFFFFF, 1 << 24, 1<<24 + 5, 1<<31 - 1, 1 << 31, 1<<31 + 5,
		1 << 32, 1<<32 + 5, 1<<32 + 0x80, 1<<32 + 0x12C, 1<<48 + 5, 1<<62 + 0x12C, math.MaxInt, math.MaxInt - 1, math.MinInt, math.MinInt + 1, math.MinInt + 5,
	}
}

// bytesOf: a length's bytes, by another way than the program's.
func bytesOf(n int) string {
	high, low := n/256, n%256
	switch {
	case high > 0:
		return "\x82" + string([]byte{byte(high), byte(low)})
	case low > 127:
		return "\x81" + string([]byte{byte(low)})
	}
	return string([]byte{byte(low)})
}

func checkLength(t *testing.T, n int, want string) {
	t.Helper()
	if got := Size(n); got != len(want) {
		t.Errorf("Size(%X): %d; want %d", n, got, len(want))
	}
	if got, ok := Put(n); got != want || !ok {
		t.Errorf("Put(%X): % X, %v; want % X, true", n, got, ok, want)
	}
}

func checkNoLength(t *testing.T, n int) {
	t.Helper()
	if got := Size(n); got != 0 {
		t.Errorf("Size(%X): %d; want 0", n, got)
	}
	if got, ok := Put(n); got != "" || ok {
		t.Errorf("Put(%X): % X, %v; want none, false", n, got, ok)
	}
}

func checkGet(t *testing.T, b string, at, want, behind int) {
	t.Helper()
	if got, next, err := Get(b, at); got != want || next != behind || err != api.OK {
		t.Errorf("Get(% X, %d): %X, %d, %d; want %X, %d, 0", b, at, got, next, err, want, behind)
	}
}

func checkGetWrong(t *testing.T, b string, at int, want api.Errno) {
	t.Helper()
	if got, next, err := Get(b, at); got != 0 || next != 0 || err != want {
		t.Errorf("Get(% X, %d): %X, %d, %d; want 0, 0, %d", b, at, got, next, err, want)
	}
}

// checkGetAround: of bytes with others ahead of them and behind them.
func checkGetAround(t *testing.T, b string, want int) {
	t.Helper()
	for _, ahead := range aheads() {
		for _, behind := range behinds() {
			checkGet(t, ahead+b+behind, len(ahead), want, len(ahead)+len(b))
		}
	}
}

// checkGetWrongAround: of bytes with others ahead of them and behind them, which mend nothing.
func checkGetWrongAround(t *testing.T, b string, want api.Errno) {
	t.Helper()
	for _, ahead := range aheads() {
		for _, behind := range behinds() {
			checkGetWrong(t, ahead+b+behind, len(ahead), want)
		}
	}
}

// P9.1

func TestLengthsOfTheExamples(t *testing.T) {
	checkLength(t, 5, "\x05")
	checkLength(t, 128, "\x81\x80")
	checkLength(t, 300, "\x82\x01\x2c")
	checkGet(t, "\x05", 0, 5, 1)
	checkGet(t, "\x81\x80", 0, 128, 2)
	checkGet(t, "\x82\x01\x2c", 0, 300, 3)
	checkGetWrong(t, "\x81\x05", 0, api.ErrLength)
}

func TestLengthsAtTheEdges(t *testing.T) {
	checkLength(t, 0x00, "\x00")
	checkLength(t, 0x01, "\x01")
	checkLength(t, 0x7E, "\x7e")
	checkLength(t, 0x7F, "\x7f")
	checkLength(t, 0x80, "\x81\x80")
	checkLength(t, 0x81, "\x81\x81")
	checkLength(t, 0xFE, "\x81\xfe")
	checkLength(t, 0xFF, "\x81\xff")
	checkLength(t, 0x100, "\x82\x01\x00")
	checkLength(t, 0x101, "\x82\x01\x01")
	checkLength(t, 0x1FF, "\x82\x01\xff")
	checkLength(t, 0x200, "\x82\x02\x00")
	checkLength(t, 0x7FFF, "\x82\x7f\xff")
	checkLength(t, 0x8000, "\x82\x80\x00")
	checkLength(t, 0xFFFE, "\x82\xff\xfe")
	checkLength(t, 0xFFFF, "\x82\xff\xff")
	checkNoLength(t, -1)
	checkNoLength(t, 0x10000)
}

func TestEachNumber(t *testing.T) {
	for n := -0x20000; n <= 0x20000; n++ {
		if n < 0 || n > 65535 {
			checkNoLength(t, n)
		} else {
			checkLength(t, n, bytesOf(n))
		}
	}
}

func TestWrongNumbers(t *testing.T) {
	for _, n := range wrongNumbers() {
		checkNoLength(t, n)
	}
}

// All that a number's higher bits may be, beside the lowest bytes of lengths.
func TestNumbersOfMoreBytes(t *testing.T) {
	for _, low := range edges() {
		for bit := 16; bit < 63; bit++ {
			checkNoLength(t, 1<<bit|low)
			checkNoLength(t, -1<<bit|low)
		}
	}
}

func TestGetOrdinary(t *testing.T) {
	b := "\x05\x81\xc8\x82\x01\x2c\x00\x82\x00\x80\x7f"
	checkGet(t, b, 0, 5, 1)
	checkGet(t, b, 1, 0xC8, 3)
	checkGetWrong(t, b, 2, api.ErrLength)
	checkGet(t, b, 3, 0x12C, 6)
	checkGet(t, b, 4, 1, 5)
	checkGet(t, b, 5, 0x2C, 6)
	checkGet(t, b, 6, 0, 7)
	checkGetWrong(t, b, 7, api.ErrLength)
	checkGet(t, b, 8, 0, 9)
	checkGetWrong(t, b, 9, api.ErrLength)
	checkGet(t, b, 10, 0x7F, 11)
	checkGetWrong(t, b, 11, api.ErrCut)
	checkGetWrong(t, b, 12, api.ErrArg)
}

func TestGetAtEachPlace(t *testing.T) {
	for _, n := range edges() {
		checkGetAround(t, bytesOf(n), n)
	}
}

// The value of a length may follow it or be missing: a length tells nothing of the bytes behind it.
func TestGetLeavesTheValueAlone(t *testing.T) {
	checkGet(t, "\x05", 0, 5, 1)
	checkGet(t, "\x05ab", 0, 5, 1)
	checkGet(t, "\x05abcdef", 0, 5, 1)
	checkGet(t, "\x82\xff\xff", 0, 0xFFFF, 3)
	checkGet(t, "\x82\xff\xff"+strings.Repeat("x", 0x10000), 0, 0xFFFF, 3)
	checkGet(t, strings.Repeat("x", 0x10000)+"\x81\x80", 0x10000, 0x80, 0x10002)
}

func TestGetWrongPlaces(t *testing.T) {
	for _, b := range []string{"", "\x05", "\x80", "\x81", "\x81\x05", "\x81\x80", "\x82", "\x82\x01", "\x82\x00\x05", "\x82\x01\x2c", "\x83", "\x05\x81\x80\xff"} {
		for _, at := range []int{-1, -2, -3, -len(b) - 1, len(b) + 1, len(b) + 2, len(b) + 3, 1 << 16, 1 << 32, 1<<32 + 1, math.MaxInt, math.MaxInt - 1, math.MaxInt - 2, math.MaxInt - 3, math.MinInt, math.MinInt + 1} {
			checkGetWrong(t, b, at, api.ErrArg)
		}
		checkGetWrong(t, b, len(b), api.ErrCut)
	}
}

func TestGetCutAheadOfTheFirstByte(t *testing.T) {
	for _, ahead := range aheads() {
		checkGetWrong(t, ahead, len(ahead), api.ErrCut)
	}
}

func TestGetCutAtEachPlace(t *testing.T) {
	for n := range 0x10000 {
		b := bytesOf(n)
		for end := range len(b) {
			checkGetWrong(t, b[:end], 0, api.ErrCut)
			checkGetWrong(t, "\x82\x05"+b[:end], 2, api.ErrCut)
		}
	}
}

// A first byte that begins no length is told by itself.
func TestGetWrongFirsts(t *testing.T) {
	for first := 0x80; first <= 0xFF; first++ {
		if first != 0x81 && first != 0x82 {
			checkGetWrongAround(t, string([]byte{byte(first)}), api.ErrLength)
		}
	}
}

func TestGetWhereFewerBytesWouldDo(t *testing.T) {
	for n := range 0x80 {
		checkGetWrongAround(t, "\x81"+string([]byte{byte(n)}), api.ErrLength)
	}
	for n := range 0x100 {
		checkGetWrongAround(t, "\x82\x00"+string([]byte{byte(n)}), api.ErrLength)
	}
}

// Each byte, and each pair, alone and behind 81 and 82, read by the written-out lengths.
func TestGetEachBytes(t *testing.T) {
	lengths := map[string]int{}
	for n := range 0x10000 {
		lengths[bytesOf(n)] = n
	}
	for first := range 256 {
		one := string([]byte{byte(first)})
		for second := range 256 {
			two := one + string([]byte{byte(second)})
			for _, b := range []string{one, two, "\x81" + one, "\x81" + two, "\x82" + one, "\x82" + two, "\x82" + two + "\x00"} {
				checkGetByList(t, lengths, b)
			}
		}
	}
}

// checkGetByList: what stands at the front of b is the length of the list whose bytes begin it, or an error.
func checkGetByList(t *testing.T, lengths map[string]int, b string) {
	t.Helper()
	for size := 1; size <= 3 && size <= len(b); size++ {
		if n, ok := lengths[b[:size]]; ok {
			checkGet(t, b, 0, n, size)
			return
		}
	}
	if b == "\x81" || b[0] == 0x82 && len(b) < 3 {
		checkGetWrong(t, b, 0, api.ErrCut)
		return
	}
	checkGetWrong(t, b, 0, api.ErrLength)
}

func TestGetOrderOfErrors(t *testing.T) {
	// A place that isn't one comes ahead of a cut and of a wrong byte.
	checkGetWrong(t, "", -1, api.ErrArg)
	checkGetWrong(t, "", 1, api.ErrArg)
	checkGetWrong(t, "\x80", -1, api.ErrArg)
	checkGetWrong(t, "\x81", 2, api.ErrArg)
	checkGetWrong(t, "\x81\x05", -1, api.ErrArg)
	// No byte at all is a cut, whatever stands ahead.
	checkGetWrong(t, "", 0, api.ErrCut)
	checkGetWrong(t, "\x80", 1, api.ErrCut)
	checkGetWrong(t, "\x83", 1, api.ErrCut)
	checkGetWrong(t, "\x81\x05", 2, api.ErrCut)
	// A first byte that begins no length comes ahead of the missing ones that it would ask for.
	for _, b := range []string{"\x80", "\x83", "\x83\x01", "\x83\x01\x00", "\x84", "\x84\x00\x01", "\xc0", "\xff", "\xff\xff"} {
		checkGetWrong(t, b, 0, api.ErrLength)
	}
	// Missing bytes come ahead of too many, even if 00 behind 82 tells already that fewer would do.
	checkGetWrong(t, "\x81", 0, api.ErrCut)
	checkGetWrong(t, "\x82", 0, api.ErrCut)
	checkGetWrong(t, "\x82\x00", 0, api.ErrCut)
	checkGetWrong(t, "\x82\x00\x05", 0, api.ErrLength)
	checkGetWrong(t, "\x82\x00\xff", 0, api.ErrLength)
	checkGetWrong(t, "\x81\x7f", 0, api.ErrLength)
}

// P9.2

func TestPutThenGet(t *testing.T) {
	for n := -0x200; n <= 0x10200; n++ {
		b, ok := Put(n)
		if ok != (n >= 0 && n <= 0xFFFF) {
			t.Errorf("Put(%X): %v", n, ok)
		}
		if !ok {
			continue
		}
		if len(b) != Size(n) {
			t.Errorf("Put(%X): %d bytes; Size: %d", n, len(b), Size(n))
		}
		checkGet(t, b, 0, n, len(b))
		checkGet(t, "\x82"+b+"\xff", 1, n, 1+len(b))
	}
}

// TestGetThenPut: so no two texts tell one length.
func TestGetThenPut(t *testing.T) {
	got := map[int]string{}
	for x := range 1 << 16 {
		for _, first := range []string{"", "\x81", "\x82", "\x83", "\x00"} {
			b := "\x81" + first + string([]byte{byte(x >> 8), byte(x)}) + "\x80"
			n, next, err := Get(b, 1)
			if err != api.OK {
				continue
			}
			if again, ok := Put(n); !ok || again != b[1:next] {
				t.Errorf("Put(%X): % X, %v; want % X, true", n, again, ok, b[1:next])
			}
			if other, ok := got[n]; ok && other != b[1:next] {
				t.Errorf("%X: % X and % X", n, other, b[1:next])
			}
			got[n] = b[1:next]
		}
	}
	if len(got) != 0x10000 {
		t.Errorf("%d lengths were got", len(got))
	}
}

// Each above its neighbour is each above all that are less.
func TestBytesCompareAsLengths(t *testing.T) {
	last, _ := Put(0)
	for n := 1; n <= 0xFFFF; n++ {
		b, _ := Put(n)
		if strings.Compare(last, b) != -1 {
			t.Errorf("%X: % X isn't above % X", n, b, last)
		}
		last = b
	}
	for _, n := range edges() {
		for _, other := range edges() {
			b, _ := Put(n)
			beside, _ := Put(other)
			if (b < beside) != (n < other) || (b == beside) != (n == other) {
				t.Errorf("%X and %X: % X and % X", n, other, b, beside)
			}
		}
	}
}

// A row of lengths is parted in one way alone.
func TestRowOfLengths(t *testing.T) {
	var row strings.Builder
	for n := range 0x10000 {
		b, _ := Put(n)
		row.WriteString(b)
	}
	b, at := row.String(), 0
	for n := range 0x10000 {
		got, next, err := Get(b, at)
		if got != n || err != api.OK {
			t.Fatalf("at %d: %X, %d; want %X, 0", at, got, err, n)
		}
		at = next
	}
	if at != len(b) {
		t.Errorf("%d; want %d", at, len(b))
	}
}
